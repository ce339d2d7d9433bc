/- What Parse tells, and where. -/
import Derived.Test.YtdkkkeoicekdgaaGreatDoorZFg16
import Derived.Test.YtdkkkeoicekdgaaGreatDoorZFg30

section

namespace Go.Proofs.YtdkkkeoicekdgaaGreatDoor
theorem zbw (l : List UInt8) : Wf l (readF l).2 := (z2l l (l.length + 1) false 0 [] (0, 0)).2.1 ⟨Nat.zero_le _, .inl rfl⟩
theorem zed {l : List UInt8} (h : (endF l (readF l).2).2 = 0) : (readF l).2.2 = 0 /\ (readF l).2.1 = l.length := by
 have hw := (zbw l).1
 unfold endF at h
 split at h
 ·exact absurd h (z0t l _)
 ·exact ⟨h, by omega⟩
end Go.Proofs.YtdkkkeoicekdgaaGreatDoor

end

section

namespace Go.Proofs.YtdkkkeoicekdgaaGreatDoor
open Go.RowKit
theorem z3v {k : IntKind} {a b : Int} (h : a = b) : Ending.returned (.int k a) = .returned (.int k b) := by rw [h]
theorem z01 {a b : Bool} (h : a = b) : Ending.returned (.bool a) = .returned (.bool b) := by rw [h]
def Row (w : World) (b : Nat) (t : TypeId) (cs : List Value) : Prop := w.heap[b]? = some (.cells cs.toArray t (0, 0))
theorem Row.cell {w : World} {b : Nat} {t : TypeId} {cs : List Value} (h : Row w b t cs) {i : Nat} {v : Value} (hi : cs[i]? = some v) : w.cell? ⟨b, i, none⟩ = some v := by
 simp only [World.cell?, Row] at *
 simp [h, hi]
theorem Row.thaw {w : World} {b : Nat} {t : TypeId} {cs : List Value} (h : Row w b t cs) (i : Nat) : w.frozen? ⟨b, i, none⟩ = false := by
 simp only [World.frozen?, Row] at *
 simp [h]
theorem Row.set {w : World} {b : Nat} {t : TypeId} {cs : List Value} (h : Row w b t cs) (i : Nat) (v : Value) : Row (w.setCell ⟨b, i, none⟩ v) b t (cs.set i v) := by
 unfold Row at *
 simp [World.setCell, Array.getElem?_modify, h]
theorem Row.keep {w w' : World} {b : Nat} {t : TypeId} {cs : List Value} (h : Row w b t cs) (hk : w'.heap[b]? = w.heap[b]?) : Row w' b t cs := hk.trans h
theorem Row.lt {w : World} {b : Nat} {t : TypeId} {cs : List Value} (h : Row w b t cs) : b < w.heap.size := (Array.getElem?_eq_some_iff.1 h).1
theorem Row.below {w w' : World} {b : Nat} {t : TypeId} {cs : List Value} (h : Row w b t cs) (hb : Below w.heap.size w w') : Row w' b t cs := h.keep (hb.block b h.lt)
theorem z02 (w : World) (cs : Array Value) (t : TypeId) : Row (w.alloc (.cells cs t)) w.heap.size t cs.toList := by
 show (w.heap.push _)[w.heap.size]? = _
 simp
theorem Row.alloc {w : World} {b : Nat} {t : TypeId} {cs : List Value} (h : Row w b t cs) (o : Obj) : Row (w.alloc o) b t cs := h.keep (Below.heap_alloc _ _ _ h.lt)
theorem Row.range {w : World} {b : Nat} {t : TypeId} {cs : List Value} (h : Row w b t cs) : w.rangeAt b 0 cs := fun j v hv => by
 rw [Nat.zero_add]; exact h.cell hv
theorem Row.there {w : World} {b : Nat} {t : TypeId} {cs : List Value} (h : Row w b t cs) (o n : Nat) (hn : o + n <= cs.length) : w.there b o n := fun j hj =>
 ⟨by rw [h.cell (List.getElem?_eq_getElem (show o + j < cs.length by omega))]; rfl, h.thaw _⟩
structure But (g : Nat) (w w' : World) : Prop where
 os : w'.os = w.os
 tape : w'.tape = w.tape
 output : w'.output = w.output
 size : w'.heap.size = w.heap.size
 block : ∀ k, k ≠ g -> w'.heap[k]? = w.heap[k]?
theorem But.refl (g : Nat) (w : World) : But g w w := ⟨rfl, rfl, rfl, rfl, fun _ _ => rfl⟩
theorem But.set {g : Nat} {w w' : World} (h : But g w w') (i : Nat) (u : Value) : But g w (w'.setCell ⟨g, i, none⟩ u) :=
 ⟨h.os, h.tape, h.output, by simpa [World.setCell] using h.size, fun k hk => (Below.heap_setCell _ _ _ _ hk).trans (h.block k hk)⟩
theorem But.drew {g : Nat} {w w' : World} (h : But g w w') : But g w w'.drew := ⟨h.os, h.tape, h.output, h.size, h.block⟩
theorem But.drewN {g : Nat} {w w' : World} (h : But g w w') (n : Nat) : But g w (w'.drewN n) := ⟨h.os, h.tape, h.output, h.size, h.block⟩
theorem But.trans {g : Nat} {a b c : World} (h : But g a b) (k : But g b c) : But g a c :=
 ⟨k.os.trans h.os, k.tape.trans h.tape, k.output.trans h.output, k.size.trans h.size, fun i hi => (k.block i hi).trans (h.block i hi)⟩
theorem But.below {g B : Nat} {w w' : World} (h : But g w w') (hg : B <= g) : Below B w w' := ⟨h.os, h.tape, h.output, Nat.le_of_eq h.size.symm, fun k hk => h.block k (by omega)⟩
theorem But.row {g b : Nat} {w w' : World} (h : But g w w') {t : TypeId} {cs : List Value} (hr : Row w b t cs) (hb : b ≠ g) : Row w' b t cs := hr.keep (h.block b hb)
theorem z0d (g : Nat) : ∀ (vs : List Value) (o : Nat) (w : World), But g w (w.setCells g o vs)
 | [], _, w => But.refl g w
 | v :: r, o, w => by rw [World.setCells]; exact ((But.refl g w).set o v).trans (z0d g r (o + 1) _)
structure Same (w w' : World) : Prop where
 os : w'.os = w.os
 tape : w'.tape = w.tape
 output : w'.output = w.output
 heap : w'.heap = w.heap
theorem Same.refl (w : World) : Same w w := ⟨rfl, rfl, rfl, rfl⟩
theorem Same.drewN {w w' : World} (h : Same w w') (n : Nat) : Same w (w'.drewN n) := ⟨h.os, h.tape, h.output, h.heap⟩
theorem Same.drew {w w' : World} (h : Same w w') : Same w w'.drew := ⟨h.os, h.tape, h.output, h.heap⟩
theorem Same.trans {a b c : World} (h : Same a b) (k : Same b c) : Same a c := ⟨k.os.trans h.os, k.tape.trans h.tape, k.output.trans h.output, k.heap.trans h.heap⟩
theorem Same.row {w w' : World} (h : Same w w') {b : Nat} {t : TypeId} {cs : List Value} (hr : Row w b t cs) : Row w' b t cs := hr.keep (by rw [h.heap])
theorem Same.below {B : Nat} {w w' : World} (h : Same w w') : Below B w w' := ⟨h.os, h.tape, h.output, by rw [h.heap]; exact Nat.le_refl _, fun k _ => by rw [h.heap]⟩
theorem Same.cell {w w' : World} (h : Same w w') (a : Addr) : w'.cell? a = w.cell? a := World.cell?_of_block (by rw [h.heap])
theorem Same.thaw {w w' : World} (h : Same w w') (a : Addr) : w'.frozen? a = w.frozen? a := World.frozen?_of_block (by rw [h.heap])
theorem z04 (w : World) (o : Obj) : Below w.heap.size w (w.alloc o) := (Below.refl _ w).alloc (Nat.le_refl _) o
theorem z3p (w : World) (o1 o2 : Obj) : Below w.heap.size w ((w.alloc o1).alloc o2) := (z04 w o1).alloc (by simp) o2
theorem z63 (w : World) (o1 o2 o3 : Obj) : Below w.heap.size w (((w.alloc o1).alloc o2).alloc o3) := (z3p w o1 o2).alloc (by simp; omega) o3
theorem z0f {B : Nat} {a w : World} (h : Below B a w) (n : Nat) : Below B a (w.drewN n) := ⟨h.os, h.tape, h.output, h.size, h.block⟩
theorem z00 {w w1 w2 : World} (h1 : Below w.heap.size w w1) (h2 : Below w1.heap.size w1 w2) : Below w.heap.size w w2 := h1.trans (h2.mono h1.size)
theorem z0m {w w' : World} {base : Nat} {e : TypeId} {size : Nat} {v : Value} {n : Nat} {xs : List Value} (h : w.ownsRow base e size v n xs) (hb : Below w.heap.size w w') : w'.ownsRow base e size v n xs := by
 refine ⟨h.1, ?_⟩
 rcases h.2 with h0 | ⟨g, cap, cur, hv, hbs, hh, hr⟩
 ·exact .inl h0
 ·exact .inr ⟨g, cap, cur, hv, hbs, (hb.block g (Array.getElem?_eq_some_iff.1 hh).1).trans hh, hr⟩
theorem z24 {w w' : World} {base : Nat} {e : TypeId} {size : Nat} {v : Value} {n : Nat} {xs : List Value} {A : Nat} (h : w.ownsRow base e size v n xs) (hb : But A w w') (hA : A < base) : w'.ownsRow base e size v n xs := by
 refine ⟨h.1, ?_⟩
 rcases h.2 with h0 | ⟨g, cap, cur, hv, hbs, hh, hr⟩
 ·exact .inl h0
 ·exact .inr ⟨g, cap, cur, hv, hbs, (hb.block g (by omega)).trans hh, hr⟩
theorem z0i {w : World} {base : Nat} {v : Value} {e : TypeId} {k n : Nat} {xs : List Value} (h : w.ownsRow base e k v n xs) : ∃ a cap, v = .slice a n cap /\ n <= cap /\ cap <= 9223372036854775807 /\ (0 < n -> ∃ g, a = some ⟨g, 0, none⟩) := by
 rcases h.2 with ⟨rfl, rfl⟩ | ⟨g, cap, cur, rfl, -, -, hc, hm, -⟩
 ·exact ⟨none, 0, rfl, Nat.le_refl _, by omega, fun h => by omega⟩
 ·exact ⟨_, cap, rfl, hc, by unfold maxLen at hm; exact hm, fun _ => ⟨g, rfl⟩⟩
structure Fr (X : Nat -> Prop) (w w' : World) : Prop where
 os : w'.os = w.os
 tape : w'.tape = w.tape
 output : w'.output = w.output
 size : w.heap.size <= w'.heap.size
 block : ∀ k, k < w.heap.size -> ¬ X k -> w'.heap[k]? = w.heap[k]?
section
variable {X Y : Nat -> Prop} {a w w' : World}
theorem Fr.refl (X : Nat -> Prop) (w : World) : Fr X w w := ⟨rfl, rfl, rfl, Nat.le_refl _, fun _ _ _ => rfl⟩
theorem Fr.trans (h : Fr X a w) (k : Fr X w w') : Fr X a w' :=
 ⟨k.os.trans h.os, k.tape.trans h.tape, k.output.trans h.output, Nat.le_trans h.size k.size, fun i hi hx => (k.block i (Nat.lt_of_lt_of_le hi h.size) hx).trans (h.block i hi hx)⟩
theorem Fr.mono (h : Fr X w w') (hxy : ∀ k, k < w.heap.size -> X k -> Y k) : Fr Y w w' := ⟨h.os, h.tape, h.output, h.size, fun k hk hy => h.block k hk (fun hx => hy (hxy k hk hx))⟩
theorem Fr.alloc (h : Fr X a w) (o : Obj) : Fr X a (w.alloc o) :=
 h.trans ⟨rfl, rfl, rfl, by simp, fun k hk _ => Below.heap_alloc _ _ _ hk⟩
theorem Fr.setCell (h : Fr X a w) {p : Addr} (hp : a.heap.size <= p.block ∨ X p.block) (u : Value) : Fr X a (w.setCell p u) :=
 ⟨h.os, h.tape, h.output, by simpa [World.setCell] using h.size, fun k hk hx => (Below.heap_setCell _ _ _ _ (fun e => by subst e; rcases hp with hp | hp; omega; exact hx hp)).trans (h.block k hk hx)⟩
theorem Fr.drew (h : Fr X a w) : Fr X a w.drew := ⟨h.os, h.tape, h.output, h.size, h.block⟩
theorem Fr.of_below (hb : Below w.heap.size w w') : Fr X w w' := ⟨hb.os, hb.tape, hb.output, hb.size, fun k hk _ => hb.block k hk⟩
theorem Fr.below {B : Nat} (h : Fr (fun k => B <= k) w w') (hB : B <= w.heap.size) : Below B w w' :=
 ⟨h.os, h.tape, h.output, h.size, fun k hk => h.block k (by omega) (by omega)⟩
theorem Fr.grown (h : Fr X a w) {row : Option Nat} (hg : w.grownBy w' row) (hr : ∀ g, row = some g -> a.heap.size <= g ∨ X g) : Fr X a w' :=
 ⟨hg.os.trans h.os, hg.tape.trans h.tape, hg.output.trans h.output, Nat.le_trans h.size hg.size, fun k hk hx => (hg.block k (Nat.lt_of_lt_of_le hk h.size) (fun e => by rcases hr k e.symm with h1 | h1; omega; exact hx h1)).trans (h.block k hk hx)⟩
theorem Fr.cell (h : Fr X w w') {p : Addr} (hp : p.block < w.heap.size) (hx : ¬ X p.block) : w'.cell? p = w.cell? p := World.cell?_of_block (h.block _ hp hx)
end
theorem z0a {w w' : World} {base : Nat} {e : TypeId} {size : Nat} {v : Value} {n : Nat} {xs : List Value} (h : w.ownsRow base e size v n xs) (hk : ∀ g, v.ownBlock = some g -> w'.heap[g]? = w.heap[g]?) : w'.ownsRow base e size v n xs := by
 refine ⟨h.1, ?_⟩
 rcases h.2 with h0 | ⟨g, cap, cur, hv, hb, hh, hr⟩
 ·exact .inl h0
 ·exact .inr ⟨g, cap, cur, hv, hb, (hk g (by rw [hv]; rfl)).trans hh, hr⟩
theorem Fr.of_same {X : Nat -> Prop} {w w' : World} (h : Same w w') : Fr X w w' := ⟨h.os, h.tape, h.output, by rw [h.heap]; exact Nat.le_refl _, fun k _ _ => by rw [h.heap]⟩
theorem Fr.to_below {g : Nat} {W w w' : World} (hb : Below W.heap.size W w) (h : Fr (· = g) w w') (hg : W.heap.size <= g) : Below W.heap.size W w' :=
 ⟨h.os.trans hb.os, h.tape.trans hb.tape, h.output.trans hb.output, Nat.le_trans hb.size h.size, fun k hk => (h.block k (Nat.lt_of_lt_of_le hk hb.size) (by omega)).trans (hb.block k hk)⟩
def Ty (T : List Nat) (w : World) (b : Nat) : Prop := ∃ cs t z, w.heap[b]? = some (.cells cs t z) /\ t ∈ T
theorem Ty.lt {T : List Nat} {w : World} {b : Nat} (h : Ty T w b) : b < w.heap.size := by
 obtain ⟨cs, t, z, h, -⟩ := h;exact (Array.getElem?_eq_some_iff.1 h).1
theorem Ty.keep {T : List Nat} {w w' : World} {b : Nat} (h : Ty T w b) (hk : w'.heap[b]? = w.heap[b]?) : Ty T w' b := by
 obtain ⟨cs, t, z, h, ht⟩ := h;exact ⟨cs, t, z, hk.trans h, ht⟩
theorem Ty.mono {T T' : List Nat} {w : World} {b : Nat} (h : Ty T w b) (hT : ∀ t ∈ T, t ∈ T') : Ty T' w b := by
 obtain ⟨cs, t, z, h, ht⟩ := h;exact ⟨cs, t, z, h, hT t ht⟩
theorem Ty.ne {T : List Nat} {w : World} {b g : Nat} {cs : Array Value} {t : TypeId} {z : Nat × Nat} (h : Ty T w b) (hg : w.heap[g]? = some (.cells cs t z)) (ht : t ∉ T) : b ≠ g := by
 rintro rfl;obtain ⟨c, t', z', h, a⟩ := h;rw [hg] at h
 injection h with h
 injection h with _ h
 subst h;exact ht a
def KpT (T : List Nat) (w w' : World) : Prop := ∀ b, Ty T w b -> w'.heap[b]? = w.heap[b]?
theorem KpT.of_below {T : List Nat} {w w' : World} (h : Below w.heap.size w w') : KpT T w w' := fun b hb => h.block b hb.lt
theorem KpT.trans {T : List Nat} {a b c : World} (h : KpT T a b) (k : KpT T b c) : KpT T a c := fun x hx => (k x (hx.keep (h x hx))).trans (h x hx)
def At {α : Type} (k : Nat) (C : α -> List Value -> Prop) (w : World) (b o : Nat) (x : α) : Prop := ∃ cs, cs.length = k /\ C x cs /\ ∀ j u, cs[j]? = some u -> w.cell? ⟨b, o + j, none⟩ = some u
def Sl {α : Type} (k : Nat) (C : α -> List Value -> Prop) (w : World) (S : Nat -> Prop) (v : Value) (xs : List α) : Prop :=
 ∃ a cap, v = .slice a xs.length cap /\ xs.length <= cap /\ cap <= 9223372036854775807 /\ (xs ≠ [] -> ∃ b off, a = some ⟨b, off, none⟩ /\ S b /\ ∀ (j : Nat) (x : α), xs[j]? = some x -> At k C w b (off + j * k) x)
theorem At.keep {α : Type} {k : Nat} {C C' : α -> List Value -> Prop} {w w' : World} {b o : Nat} {x : α} (h : At k C w b o x) (hk : w'.heap[b]? = w.heap[b]?) (hC : ∀ x cs, C x cs -> C' x cs) : At k C' w' b o x := by
 obtain ⟨cs, hl, hx, hc⟩ := h;exact ⟨cs, hl, hC _ _ hx, fun j u hu => (World.cell?_of_block (a := ⟨b, o + j, none⟩) hk).trans (hc j u hu)⟩
theorem Sl.keep {α : Type} {k : Nat} {C C' : α -> List Value -> Prop} {w w' : World} {S S' : Nat -> Prop} {v : Value} {xs : List α} (h : Sl k C w S v xs) (hk : ∀ b, S b -> w'.heap[b]? = w.heap[b]?) (hS : ∀ b, S b -> S' b) (hC : ∀ x cs, C x cs -> C' x cs) : Sl k C' w' S' v xs := by
 obtain ⟨a, c, hv, hl, hm, hx⟩ := h;refine ⟨a, c, hv, hl, hm, fun hne => ?_⟩;obtain ⟨b, d, ha, hb, f⟩ := hx hne;exact ⟨b, d, ha, hS b hb, fun j x hj => (f j x hj).keep (hk b hb) hC⟩
def Cat {α : Type} (k : Nat) (C : α -> List Value -> Prop) : List α -> List Value -> Prop
 | [], vs => vs = []
 | x :: r, vs => ∃ cs rest, vs = cs ++ rest /\ cs.length = k /\ C x cs /\ Cat k C r rest
theorem Cat.mono {α : Type} {k : Nat} {C C' : α -> List Value -> Prop} (hC : ∀ x cs, C x cs -> C' x cs) : ∀ {xs : List α} {vs : List Value}, Cat k C xs vs -> Cat k C' xs vs
 | [], _, h => h
 | x :: r, vs, h => by
  obtain ⟨cs, a, hv, hl, hx, hr⟩ := h;exact ⟨cs, a, hv, hl, hC _ _ hx, Cat.mono hC hr⟩
theorem Cat.snoc {α : Type} {k : Nat} {C : α -> List Value -> Prop} {x : α} {cs : List Value} (hl : cs.length = k) (hx : C x cs) : ∀ {xs : List α} {vs : List Value}, Cat k C xs vs -> Cat k C (xs ++ [x]) (vs ++ cs)
 | [], vs, h => by
  obtain rfl : vs = [] := h;exact ⟨cs, [], by simp, hl, hx, rfl⟩
 | y :: r, vs, h => by
  obtain ⟨ds, a, rfl, hd, hy, hr⟩ := h;exact ⟨ds, a ++ cs, by simp, hd, hy, Cat.snoc hl hx hr⟩
theorem Cat.one {α : Type} {k : Nat} {C : α -> List Value -> Prop} {x : α} {cs : List Value} (hl : cs.length = k) (hx : C x cs) : Cat k C [x] cs := ⟨cs, [], by simp, hl, hx, rfl⟩
theorem Cat.get {α : Type} {k : Nat} {C : α -> List Value -> Prop} : ∀ {xs : List α} {vs : List Value}, Cat k C xs vs -> ∀ (j : Nat) (x : α), xs[j]? = some x -> ∃ cs, cs.length = k /\ C x cs /\ ∀ i u, cs[i]? = some u -> vs[j * k + i]? = some u
 | [], _, _, j, x, hj => by simp at hj
 | y :: r, vs, h, 0, x, hj => by
  obtain ⟨cs, a, rfl, hl, hx, hr⟩ := h
  obtain rfl : y = x := by simpa using hj
  exact ⟨cs, hl, hx, fun i u hu => by
   rw [Nat.zero_mul, Nat.zero_add, List.getElem?_append_left (by have := (List.getElem?_eq_some_iff.1 hu).1; omega)]; exact hu⟩
 | y :: r, vs, h, j + 1, x, hj => by
  obtain ⟨cs, a, rfl, hl, hx, hr⟩ := h;obtain ⟨ds, hd, b, hc⟩ := Cat.get hr j x (by simpa using hj);refine ⟨ds, hd, b, fun i u hu => ?_⟩;rw [Nat.succ_mul, List.getElem?_append_right (by omega), show j * k + k + i - cs.length = j * k + i by omega];exact hc i u hu
theorem z5n {w : World} {base k n : Nat} {e : TypeId} {v : Value} {vs : List Value} (h : w.ownsRow base e k v n vs) {b off : Nat} {cap m : Nat} (hv : v = .slice (some ⟨b, off, none⟩) m cap) : off = 0 /\ (∃ cs z, w.heap[b]? = some (.cells cs e z)) /\ ∀ i u, vs[i]? = some u -> w.cell? ⟨b, i, none⟩ = some u := by
 rcases h.2 with ⟨rfl, h0⟩ | ⟨g, cap', cur, rfl, hb, hh, hc, -, hs, ht⟩
 ·cases hv
 ·injection hv with hv
  injection hv with hv
  injection hv with h1 h2
  subst h1;refine ⟨h2.symm, ⟨_, _, hh⟩, fun i u hu => ?_⟩;have a := (List.getElem?_eq_some_iff.1 hu).1;have := h.1;rw [<- ht, List.getElem?_take, if_pos (by omega), Array.getElem?_toList] at hu;simp only [World.cell?, hh, hu]
  simp
theorem Sl.of_owns {α : Type} {k : Nat} {C : α -> List Value -> Prop} {w : World} {base : Nat} {e : TypeId} {v : Value} {xs : List α} {vs : List Value} (h : w.ownsRow base e k v xs.length vs) (hc : Cat k C xs vs) {S : Nat -> Prop} (hS : ∀ b cs z, w.heap[b]? = some (.cells cs e z) -> S b) : Sl k C w S v xs := by
 obtain ⟨a, d, hv, hl, hm, hx⟩ := z0i h;refine ⟨a, d, hv, hl, hm, fun hne => ?_⟩;obtain ⟨g, rfl⟩ := hx (List.length_pos_iff.2 hne);obtain ⟨-, ⟨cs, z, hh⟩, c⟩ := z5n h hv;refine ⟨g, 0, rfl, hS _ _ _ hh, fun j x hj => ?_⟩;obtain ⟨ds, hd, f, l⟩ := hc.get j x hj;exact ⟨ds, hd, f, fun i u hu => by rw [Nat.zero_add]; exact c _ _ (l i u hu)⟩
theorem zdh (w : World) (cs : Array Value) (e : TypeId) (base n : Nat) (k : Nat) (hs : cs.size = n * k) (hb : base <= w.heap.size) (hn : n <= 9223372036854775807) : (w.alloc (.cells cs e)).ownsRow base e k (.slice (some ⟨w.heap.size, 0, none⟩) n n) n cs.toList :=
 ⟨by simpa using hs, .inr ⟨w.heap.size, n, cs, rfl, hb, heap_alloc_new w _, Nat.le_refl _, by unfold maxLen; exact hn, hs, by rw [List.take_of_length_le]; simp [hs]⟩⟩
theorem z1v (w : World) (cs : Array Value) (t : TypeId) {B : Nat} (hB : w.heap.size = B) : ∀ j v, cs.toList[j]? = some v -> (w.alloc (.cells cs t)).cell? (Addr.add ⟨B, 0, none⟩ j) = some v := fun j v hv => by
 subst hB;rw [Addr.add_mid, Nat.zero_add];exact (z02 w cs t).cell hv
theorem zhh : (Tryz.prog.info? 263).map (fun i => (i.zero, i.size, i.bytes)) = some (some (.agg #[.int .i64 0, .string ByteArray.empty, .string ByteArray.empty, .slice none 0 0]), 4, 64) := by kernel_rfl
theorem info44 : (Tryz.prog.info? 284).map (fun i => (i.zero, i.size, i.bytes)) = some (some (.agg #[.string ByteArray.empty, .slice none 0 0]), 2, 40) := by kernel_rfl
abbrev BA := ByteArray
def CP (w : World) (S : Nat -> Prop) : Nat -> Pt -> List Value -> Prop
 | 0, _, _ => False
 | n + 1, x, cs => ∃ v, cs = [.int .i64 x.k, .string x.t, .string x.n, v] /\ Sl 2 (fun (c : Cs) ds => ∃ u, ds = [.string c.key, u] /\ Sl 4 (CP w S n) w S u c.kids) w S v x.cs
def CC (w : World) (S : Nat -> Prop) (n : Nat) (c : Cs) (ds : List Value) : Prop := ∃ u, ds = [.string c.key, u] /\ Sl 4 (CP w S n) w S u c.kids
abbrev SlP (w : World) (S : Nat -> Prop) (n : Nat) (v : Value) (xs : List Pt) : Prop := Sl 4 (CP w S n) w S v xs
abbrev SlC (w : World) (S : Nat -> Prop) (n : Nat) (v : Value) (xs : List Cs) : Prop := Sl 2 (CC w S n) w S v xs
theorem CP.out {w : World} {S : Nat -> Prop} {n : Nat} {x : Pt} {cs : List Value} (h : CP w S n x cs) : ∃ m v, n = m + 1 /\ cs = [.int .i64 x.k, .string x.t, .string x.n, v] /\ SlC w S m v x.cs := by
 cases n with
 | zero => exact h.elim
 | succ m => obtain ⟨v, h1, h2⟩ := h; exact ⟨m, v, rfl, h1, h2⟩
theorem CP.mk {w : World} {S : Nat -> Prop} {n : Nat} {k : Int} {t nm : BA} {cs : List Cs} {v : Value} (h : SlC w S n v cs) : CP w S (n + 1) (.mk k t nm cs) [.int .i64 k, .string t, .string nm, v] := ⟨v, rfl, h⟩
theorem CC.mk {w : World} {S : Nat -> Prop} {n : Nat} {key : BA} {kids : List Pt} {v : Value} (h : SlP w S n v kids) : CC w S n (.mk key kids) [.string key, v] := ⟨v, rfl, h⟩
theorem CP.keep {w w' : World} {S S' : Nat -> Prop} (hk : ∀ b, S b -> w'.heap[b]? = w.heap[b]?) (hS : ∀ b, S b -> S' b) : ∀ {n : Nat} {x : Pt} {cs : List Value}, CP w S n x cs -> CP w' S' n x cs
 | 0, _, _, h => h.elim
 | n + 1, x, cs, h => by
  obtain ⟨v, h1, h2⟩ := h;refine ⟨v, h1, Sl.keep h2 hk hS ?_⟩;rintro c ds ⟨u, hu, hs⟩;exact ⟨u, hu, Sl.keep hs hk hS (fun _ _ => CP.keep hk hS)⟩
theorem CP.more {w : World} {S : Nat -> Prop} : ∀ {n : Nat} {x : Pt} {cs : List Value}, CP w S n x cs -> CP w S (n + 1) x cs
 | 0, _, _, h => h.elim
 | n + 1, x, cs, h => by
  obtain ⟨v, h1, h2⟩ := h;refine ⟨v, h1, Sl.keep h2 (fun _ _ => rfl) (fun _ h => h) ?_⟩;rintro c ds ⟨u, hu, hs⟩;exact ⟨u, hu, Sl.keep hs (fun _ _ => rfl) (fun _ h => h) (fun _ _ => CP.more)⟩
theorem CP.le {w : World} {S : Nat -> Prop} {n m : Nat} {x : Pt} {cs : List Value} (h : CP w S n x cs) (hnm : n <= m) : CP w S m x cs := by
 obtain ⟨d, rfl⟩ := Nat.exists_eq_add_of_le hnm
 induction d with
 | zero => exact h
 | succ d ih => exact CP.more (ih (by omega))
theorem SlP.keep {w w' : World} {S S' : Nat -> Prop} {n : Nat} {v : Value} {xs : List Pt} (h : SlP w S n v xs) (hk : ∀ b, S b -> w'.heap[b]? = w.heap[b]?) (hS : ∀ b, S b -> S' b) : SlP w' S' n v xs := Sl.keep h hk hS (fun _ _ => CP.keep hk hS)
theorem SlP.le {w : World} {S : Nat -> Prop} {n m : Nat} {v : Value} {xs : List Pt} (h : SlP w S n v xs) (hnm : n <= m) : SlP w S m v xs := Sl.keep h (fun _ _ => rfl) (fun _ h => h) (fun _ _ h => h.le hnm)
theorem CC.keep {w w' : World} {S S' : Nat -> Prop} {n : Nat} {c : Cs} {ds : List Value} (h : CC w S n c ds) (hk : ∀ b, S b -> w'.heap[b]? = w.heap[b]?) (hS : ∀ b, S b -> S' b) : CC w' S' n c ds := by
 obtain ⟨u, hu, h⟩ := h;exact ⟨u, hu, SlP.keep h hk hS⟩
theorem CC.le {w : World} {S : Nat -> Prop} {n m : Nat} {c : Cs} {ds : List Value} (h : CC w S n c ds) (hnm : n <= m) : CC w S m c ds := by
 obtain ⟨u, hu, h⟩ := h;exact ⟨u, hu, SlP.le h hnm⟩
theorem SlC.keep {w w' : World} {S S' : Nat -> Prop} {n : Nat} {v : Value} {xs : List Cs} (h : SlC w S n v xs) (hk : ∀ b, S b -> w'.heap[b]? = w.heap[b]?) (hS : ∀ b, S b -> S' b) : SlC w' S' n v xs := Sl.keep h hk hS (fun _ _ h => h.keep hk hS)
theorem SlC.le {w : World} {S : Nat -> Prop} {n m : Nat} {v : Value} {xs : List Cs} (h : SlC w S n v xs) (hnm : n <= m) : SlC w S m v xs := Sl.keep h (fun _ _ => rfl) (fun _ h => h) (fun _ _ h => h.le hnm)
theorem Sl.nil {α : Type} (k : Nat) (C : α -> List Value -> Prop) (w : World) (S : Nat -> Prop) : Sl k C w S (.slice none 0 0) [] := ⟨none, 0, rfl, Nat.le_refl _, by omega, fun h => absurd rfl h⟩
abbrev Old (w : World) (b : Nat) : Prop := b < w.heap.size
abbrev Fsh (B : Nat) (w : World) (b : Nat) : Prop := B <= b /\ b < w.heap.size
abbrev Oth (B : Nat) (v : Value) (w : World) (b : Nat) : Prop := B <= b /\ b < w.heap.size /\ v.ownBlock ≠ some b
structure Gw {α : Type} (e k : Nat) (C : World -> (Nat -> Prop) -> α -> List Value -> Prop) (B : Nat) (w : World) (v : Value) (xs : List α) (vs : List Value) : Prop where
 own : w.ownsRow B e k v xs.length vs
 cat : Cat k (C w (Oth B v w)) xs vs
def Kp {α : Type} (C : World -> (Nat -> Prop) -> α -> List Value -> Prop) : Prop := ∀ {w w' : World} {S S' : Nat -> Prop} {x : α} {cs : List Value}, C w S x cs -> (∀ b, S b -> w'.heap[b]? = w.heap[b]?) -> (∀ b, S b -> S' b) -> C w' S' x cs
abbrev CPn (n : Nat) (w : World) (S : Nat -> Prop) (x : Pt) (cs : List Value) : Prop := CP w S n x cs
abbrev CCn (n : Nat) (w : World) (S : Nat -> Prop) (x : Cs) (cs : List Value) : Prop := CC w S n x cs
theorem kpP (n : Nat) : Kp (CPn n) := fun h hk hS => CP.keep hk hS h
theorem kpC (n : Nat) : Kp (CCn n) := fun h hk hS => CC.keep h hk hS
section
variable {α : Type} {e k : Nat} {C : World -> (Nat -> Prop) -> α -> List Value -> Prop} {B : Nat} {w w' : World} {v : Value} {xs : List α} {vs : List Value}
theorem Gw.nil (e k : Nat) (C : World -> (Nat -> Prop) -> α -> List Value -> Prop) (B : Nat) (w : World) : Gw e k C B w (.slice none 0 0) [] [] := ⟨World.ownsRow_nil _ _ _ _, rfl⟩
theorem Gw.fr (h : Gw e k C B w v xs vs) (hC : Kp C) {X : Nat -> Prop} (hf : Fr X w w') (hX : ∀ b, B <= b -> b < w.heap.size -> ¬ X b) : Gw e k C B w' v xs vs :=
 ⟨z0a h.own (fun g hg => hf.block g (h.own.lt g hg).2 (hX g (h.own.lt g hg).1 (h.own.lt g hg).2)), h.cat.mono (fun _ _ hx => hC hx (fun b hb => hf.block b hb.2.1 (hX b hb.1 hb.2.1)) (fun _ hb => ⟨hb.1, Nat.lt_of_lt_of_le hb.2.1 hf.size, hb.2.2⟩))⟩
theorem Gw.done (h : Gw e k C B w v xs vs) (hC : Kp C) : Sl k (C w (Fsh B w)) w (Fsh B w) v xs := by
 have c := h.own;obtain ⟨a, l, hv, hl, hm, hx⟩ := z0i c;refine ⟨a, l, hv, hl, hm, fun hne => ?_⟩;obtain ⟨g, rfl⟩ := hx (List.length_pos_iff.2 hne);obtain ⟨-, -, d⟩ := z5n c hv;have f := c.lt g (by rw [hv]; rfl);refine ⟨g, 0, rfl, ⟨f.1, f.2⟩, fun j x hj => ?_⟩;obtain ⟨ds, hd, m, n⟩ := h.cat.get j x hj;exact ⟨ds, hd, hC m (fun _ _ => rfl) (fun b hb => ⟨hb.1, hb.2.1⟩), fun i u hu => by rw [Nat.zero_add]; exact d _ _ (n i u hu)⟩
theorem Gw.push {w9 : World} {o : Obj} {x : α} {cs : List Value} {g c n : Nat} {B2 : Nat} (h : Gw e k C B w v xs vs) (hC : Kp C) (hn : n = xs.length) (hx : C w (Fsh B2 w) x cs) (hB : B <= B2) (hv : ∀ b, v.ownBlock = some b -> b < B2) (hk : cs.length = k)
  (hg : (w.alloc o).grownBy w9 v.ownBlock) (hown : w9.ownsRow B e k (.slice (some ⟨g, 0, none⟩) (n + 1) c) (n + 1) (vs ++ cs)) (hgl : v.ownBlock = some g ∨ w.heap.size <= g) :
  Gw e k C B w9 (.slice (some ⟨g, 0, none⟩) (n + 1) c) (xs ++ [x]) (vs ++ cs) := by
 have f : w.heap.size <= w9.heap.size := by have := hg.size; rw [World.size_alloc] at this; omega
 have d : ∀ b, b < w.heap.size -> v.ownBlock ≠ some b -> w9.heap[b]? = w.heap[b]? := fun b hb a =>
  (hg.block b (by rw [World.size_alloc]; omega) (fun e => a e.symm)).trans (Below.heap_alloc _ _ _ hb)
 have a : ∀ b, b < w.heap.size -> v.ownBlock ≠ some b -> (Value.slice (some ⟨g, 0, none⟩) (n + 1) c).ownBlock ≠ some b := fun b hb hq e => by
  have e2 : g = b := Option.some.inj e;subst e2
  rcases hgl with z | z
  ·exact hq z
  ·omega
 refine ⟨by rw [List.length_append, <- hn]; exact hown, Cat.snoc hk ?_ (h.cat.mono (fun _ _ hy => hC hy (fun b hb => d b hb.2.1 hb.2.2) (fun b hb => ⟨hb.1, by omega, a b hb.2.1 hb.2.2⟩)))⟩
 have hq : ∀ b, Fsh B2 w b -> v.ownBlock ≠ some b := fun b hb e => by have := hv b e; omega
 exact hC hx (fun b hb => d b hb.2 (hq b hb)) (fun b hb => ⟨by omega, by omega, a b hb.2 (hq b hb)⟩)
end
theorem Gw.leP {n m : Nat} {B : Nat} {w : World} {v : Value} {xs : List Pt} {vs : List Value} (h : Gw 263 4 (CPn n) B w v xs vs) (hnm : n <= m) : Gw 263 4 (CPn m) B w v xs vs := ⟨h.own, h.cat.mono (fun _ _ hx => CP.le hx hnm)⟩
theorem Gw.leC {n m : Nat} {B : Nat} {w : World} {v : Value} {xs : List Cs} {vs : List Value} (h : Gw 284 2 (CCn n) B w v xs vs) (hnm : n <= m) : Gw 284 2 (CCn m) B w v xs vs := ⟨h.own, h.cat.mono (fun _ _ hx => CC.le hx hnm)⟩
theorem z3g (s : BA) (k : Nat) (h : k < s.size) : s.data.toList[k]? = some s[k] := by rw [Array.getElem?_toList, Array.getElem?_eq_getElem (show k < s.data.size from h)]; rfl
theorem get_no (s : BA) (k : Nat) (h : ¬ k < s.size) : s.data.toList[k]? = none := by rw [List.getElem?_eq_none]; simp; omega
theorem z07 (s : BA) : s.data.toList.length = s.size := by simp
theorem zi4 (c : UInt8) (r : List UInt8) : ByteArray.extract ⟨(c :: r).toArray⟩ 0 1 = ⟨#[c]⟩ := by
 apply ByteArray.ext
 simp [ByteArray.data_extract]
theorem za4 (c : UInt8) (r : List UInt8) : ByteArray.size ⟨(c :: r).toArray⟩ = r.length + 1 := by simp [ByteArray.size]
theorem drop_at {l : List UInt8} {k : Nat} {c : UInt8} (h : l[k]? = some c) : l.drop k = c :: l.drop (k + 1) := by
 obtain ⟨hi, rfl⟩ := List.getElem?_eq_some_iff.1 h;exact List.drop_eq_getElem_cons hi
theorem zcp (t : BA) (k : Nat) (h : k < t.size) : (ByteArray.extract t k (k + 1)).data.toList = [t[k]] := by
 have h1 := z3g t k h
 have h2 : (ByteArray.extract t k (k + 1)).data.toList = (t.data.toList.drop k).take (k + 1 - k) := by simp [ByteArray.data_extract]
 rw [h2, show k + 1 - k = 1 by omega, List.take_one, List.head?_drop, h1]; rfl
theorem Row.c0 {w : World} {b : Nat} {t : TypeId} {x : Value} {l : List Value} (h : Row w b t (x :: l)) : w.cell? ⟨b, 0, none⟩ = some x := h.cell (i := 0) rfl
theorem Row.c1 {w : World} {b : Nat} {t : TypeId} {x y : Value} {l : List Value} (h : Row w b t (x :: y :: l)) : w.cell? ⟨b, 1, none⟩ = some y := h.cell (i := 1) rfl
theorem Row.c2 {w : World} {b : Nat} {t : TypeId} {x y z : Value} {l : List Value} (h : Row w b t (x :: y :: z :: l)) : w.cell? ⟨b, 2, none⟩ = some z := h.cell (i := 2) rfl
theorem Row.c3 {w : World} {b : Nat} {t : TypeId} {x y z u : Value} {l : List Value} (h : Row w b t (x :: y :: z :: u :: l)) : w.cell? ⟨b, 3, none⟩ = some u := h.cell (i := 3) rfl
theorem nmd {α : Sort _} (x : α) : ∃ y, Hid (y = x) := ⟨_, Lib.hid rfl⟩
end Go.Proofs.YtdkkkeoicekdgaaGreatDoor

end

section

namespace Go.Proofs.YtdkkkeoicekdgaaGreatDoor
def subs : List Pt -> Nat
 | [] => 0
 | x :: r => cntCs x.cs + subs r
theorem z9k (x : Pt) : cntP x = 1 + cntCs x.cs := by cases x; rw [cntP]; rfl
theorem ziq (x : Cs) : cntC x = cntPs x.kids := by cases x; rw [cntC]; rfl
theorem dpP_eq (x : Pt) : dpP x = dpCs x.cs := by cases x; rw [dpP]; rfl
theorem dpC_eq (x : Cs) : dpC x = dpPs x.kids + 1 := by cases x; rw [dpC]; rfl
theorem z1y : ∀ xs : List Pt, cntPs xs = xs.length + subs xs
 | [] => by rw [cntPs, subs]; rfl
 | x :: r => by rw [cntPs, z9k, subs, z1y r, List.length_cons]; omega
theorem z6q : ∀ (xs : List Pt) (x : Pt), subs (xs ++ [x]) = subs xs + cntCs x.cs
 | [], x => by simp [subs]
 | y :: r, x => by show subs (y :: (r ++ [x])) = _; rw [subs, subs, z6q r x]; omega
theorem z5r : ∀ (xs : List Cs) (x : Cs), cntCs (xs ++ [x]) = cntCs xs + cntC x
 | [], x => by simp [cntCs]
 | y :: r, x => by show cntCs (y :: (r ++ [x])) = _; rw [cntCs, cntCs, z5r r x]; omega
theorem take_one {α : Type} {xs : List α} {k : Nat} {x : α} (h : xs[k]? = some x) : xs.take (k + 1) = xs.take k ++ [x] := by
 obtain ⟨a, hx⟩ := List.getElem?_eq_some_iff.1 h;rw [List.take_succ_eq_append_getElem a, hx]
theorem z9g {α : Type} {xs : List α} {k : Nat} {x : α} (h : xs[k]? = some x) : xs.drop k = x :: xs.drop (k + 1) := by
 obtain ⟨a, hx⟩ := List.getElem?_eq_some_iff.1 h;rw [List.drop_eq_getElem_cons a, hx]
theorem z9z {xs : List Pt} {k : Nat} {x : Pt} (h : xs[k]? = some x) : subs (xs.take (k + 1)) = subs (xs.take k) + cntCs x.cs := by rw [take_one h, z6q]
theorem z5q {xs : List Cs} {k : Nat} {x : Cs} (h : xs[k]? = some x) : cntCs (xs.take (k + 1)) = cntCs (xs.take k) + cntPs x.kids := by rw [take_one h, z5r, ziq]
theorem zb6 {xs : List Pt} {k : Nat} {x : Pt} (h : xs[k]? = some x) : dpPs (xs.take (k + 1)) = max (dpPs (xs.take k)) (dpCs x.cs) := by rw [take_one h, zcs, dpP_eq]
theorem zb7 {xs : List Cs} {k : Nat} {x : Cs} (h : xs[k]? = some x) : dpCs (xs.take (k + 1)) = max (dpCs (xs.take k)) (dpPs x.kids + 1) := by rw [take_one h, z9i, dpC_eq]
theorem zbl : ∀ (xs : List Pt) (k : Nat), subs (xs.take k) <= subs xs
 | [], k => by simp
 | _ :: _, 0 => by simp [subs]
 | x :: r, k + 1 => by rw [List.take_succ_cons, subs, subs]; have := zbl r k; omega
theorem zeq : ∀ (xs : List Cs) (k : Nat), cntCs (xs.take k) <= cntCs xs
 | [], k => by simp
 | _ :: _, 0 => by simp [cntCs]
 | x :: r, k + 1 => by rw [List.take_succ_cons, cntCs, cntCs]; have := zeq r k; omega
theorem subs_at {xs : List Pt} {k : Nat} {x : Pt} (h : xs[k]? = some x) : subs (xs.take k) + cntCs x.cs <= subs xs := by
 have := zbl xs (k + 1); rw [z9z h] at this; exact this
theorem zha {xs : List Cs} {k : Nat} {x : Cs} (h : xs[k]? = some x) : cntCs (xs.take k) + cntPs x.kids <= cntCs xs := by
 have := zeq xs (k + 1); rw [z5q h] at this; exact this
theorem zch (xs : List Pt) : xs.length <= cntPs xs := by rw [z1y]; omega
def Vi (c d br N dp C D : Nat) : Prop := c <= C /\ C <= c + N /\ (C <= 1000 -> C = c + N /\ D = max d (br + dp))
theorem Vi.step {c d br N dp C D N' dp' C' D' : Nat} (h : Vi c d br N dp C D) (hC : C <= 1000) (k : Vi C D (br + 1) N' dp' C' D') : Vi c d br (N + N') (max dp (dp' + 1)) C' D' := by
 obtain ⟨h1, h2, h3⟩ := h;obtain ⟨k1, k2, k3⟩ := k;obtain ⟨h4, h5⟩ := h3 hC;refine ⟨by omega, by omega, fun hC' => ?_⟩;obtain ⟨k4, k5⟩ := k3 hC';exact ⟨by omega, by omega⟩
theorem Vi.over {c d br N dp C D N' dp' : Nat} (h : Vi c d br N dp C D) (hC : 1000 < C) (hN : N <= N') : Vi c d br N' dp' C D := by
 obtain ⟨h1, h2, h3⟩ := h;exact ⟨h1, by omega, fun h => by omega⟩
theorem z8e (xs : List Pt) (x : Pt) : cntPs (xs ++ [x]) = cntPs xs + cntP x := by
 rw [z1y, z1y, z6q, z9k, List.length_append, List.length_singleton]; omega
theorem zep (l : List UInt8) : ∀ f, (∀ h o acc S, (z0c l f h o acc S).2.2 = 0 -> cntPs (z0c l f h o acc S).1 + S.1 <= cntPs acc + (z0c l f h o acc S).2.1) /\ (∀ h o acc b, (z09 l f h o acc b).2.2 = 0 -> cntCs (z09 l f h o acc b).1 + b.2.1 <= cntCs acc + (z09 l f h o acc b).2.1)
 | 0 => ⟨fun h o acc S _ => by rw [z0c]; exact Nat.le_refl _, fun h o acc b _ => by rw [z09]; exact Nat.le_refl _⟩
 | f + 1 => by
  obtain ⟨d, c⟩ := zep l f;refine ⟨fun h o acc S h3 => ?_, fun h o acc b h3 => ?_⟩
  ·rw [z0c] at h3 ⊢
   split
   ·rename_i hc
    rw [if_pos hc] at h3;have hl := (z2l l f h o _ _).live h3;have e1 := d _ _ _ _ h3;rw [z8e] at e1
    have e2 : cntP (partG l (fun h b => z09 l f h o [] b) h S).1 + S.1 <= (partG l (fun h b => z09 l f h o [] b) h S).2.1 := by
     have a := z8x (cf := fun h b => z09 l f h o [] b) (fun h b => z3m l f h o [] b) (h := h) hc.1 hc.2.1 hc.2.2;rw [z9k]
     unfold partG at hl a ⊢
     split at hl
     ·rename_i hn
      rw [if_pos hn] at a ⊢
      have hw : S.1 + 1 <= (wordF l [123] S).1 := by rw [z3i hn]; exact (z06 l [] (S.1 + 1, 0)).1
      have g1 := (z3b l nameB (wordF l [123] S)).1
      unfold holeG at hl a ⊢
      simp only at hl a ⊢
      split at hl
      ·rename_i hs
       rw [if_pos hs];have := c h o [] _ hl;have g2 := ((z06 l seW (longF l nameB (wordF l [123] S)).2).trans (z1f l [32] _)).1;simp only [cntCs, Pt.cs] at this ⊢
       omega
      ·rename_i hs
       rw [if_neg hs] at a ⊢
       split at hl
       ·rename_i hp
        rw [if_pos hp];have := c true o [] _ hl;have g2 := ((z06 l plW (longF l nameB (wordF l [123] S)).2).trans (z1f l [32] _)).1;simp only [cntCs, Pt.cs] at this ⊢
        omega
       ·rename_i hp
        rw [if_neg hp] at a ⊢
        simp only [cntCs, Pt.cs] at *
        omega
     ·rename_i hn
      rw [if_neg hn] at a ⊢
      split at hl
      ·rename_i hn2
       rw [if_pos hn2] at a ⊢
       simp only [cntCs, Pt.cs] at *
       omega
      ·rename_i hn2
       rw [if_neg hn2] at a ⊢
       simp only [cntCs, Pt.cs] at *
       omega
    omega
   ·exact Nat.le_refl _
  ·rw [z09] at h3 ⊢
   split
   ·rename_i hc
    rw [if_pos hc] at h3;have g := (z3m l f h o _ _).live h3;have hl := (z1f l [32, 125] _).live g;have e1 := c _ _ _ _ h3;rw [z5r, ziq] at e1;have g1 := (z1f l [32, 125] (z16 l (fun S => z0c l f h (o + 1) [] S) o b.2).2).1
    have e2 : cntPs (z16 l (fun S => z0c l f h (o + 1) [] S) o b.2).1.kids + b.2.1 <= (z16 l (fun S => z0c l f h (o + 1) [] S) o b.2).2.1 := by
     unfold z16 at hl ⊢
     simp only at hl ⊢;have i := (z06 l [125] _).live hl;have := d h (o + 1) [] _ i;have g2 := ((zav l b.2).trans ((z06 l [32] _).trans ((zhs l o _).trans (z06 l [123] _)))).1;have g3 := (z06 l [125] (z0c l f h (o + 1) [] (wordF l [123] (deepF l o (wordF l [32] (keyF l b.2).2)))).2).1;simp only [cntPs, Cs.kids] at this ⊢
     omega
    omega
   ·exact Nat.le_refl _
theorem zeo {l : List UInt8} (h : (readF l).2.2 = 0) : cntPs (readF l).1 <= l.length := by
 have h1 := (zep l (l.length + 1)).1 false 0 [] (0, 0) h;have h2 := (zbw l).1;simp only [cntPs] at h1
 unfold readF at h2 ⊢
 omega
end Go.Proofs.YtdkkkeoicekdgaaGreatDoor

end

section

namespace Go.Proofs.YtdkkkeoicekdgaaGreatDoor
set_option maxHeartbeats 3200000
set_option maxRecDepth 100000
open Go.Lib (hid)
open Go.RowKit
theorem z2r (c : UInt8) (w : World) : Calls Tryz.prog 283 #[.int .u8 c.toNat] w fun e w' => e = .returned (.bool (isLet c)) /\ w' = w := by
 have hc := c.toNat_lt
 by_cases h1 : 97 <= c.toNat
 ·by_cases h2 : c.toNat <= 122
  ·have HE : Hid (isLet c = true) := hid (by unfold isLet; simp [h1, h2])
   have g1 : (97 : Int) <= (c.toNat : Int) := by omega
   have g2 : (c.toNat : Int) <= 122 := by omega
   go_enter Tryz.func283, Tryz.ntmps283
   go_wp2;go_ret;exact ⟨by rw [HE.out]; rfl, rfl⟩
  ·have HE : Hid (isLet c = false) := hid (by unfold isLet; simp [h2])
   have g1 : (97 : Int) <= (c.toNat : Int) := by omega
   have g2 : ¬ (c.toNat : Int) <= 122 := by omega
   go_enter Tryz.func283, Tryz.ntmps283
   go_wp2;go_ret;exact ⟨by rw [HE.out]; rfl, rfl⟩
 ·have HE : Hid (isLet c = false) := hid (by unfold isLet; simp [h1])
  have g1 : ¬ (97 : Int) <= (c.toNat : Int) := by omega
  go_enter Tryz.func283, Tryz.ntmps283
  go_wp2;go_ret;exact ⟨by rw [HE.out]; rfl, rfl⟩
theorem z4e {l : List UInt8} {c : UInt8} (h : l[0]? = some c) : nameB l = (decide (l.length <= 32) && isLet c && l.all isWrd) := by
 cases l with
 | nil => cases h
 | cons d r =>
  obtain rfl : d = c := by simpa using h
  show (decide (r.length <= 31) && _ && _) = _
  have : decide (r.length <= 31) = decide ((d :: r).length <= 32) := by simp
  rw [this]
theorem zdp {l : List UInt8} {k : Nat} {c : UInt8} (h : l[k]? = some c) (hc : isWrd c = false) : nameB l = false := by
 cases h0 : l[0]? with
 | none => rw [List.getElem?_eq_none_iff] at h0; have := z0z h; omega
 | some d =>
  rw [z4e h0]
  have : l.all isWrd = false := by
   rw [List.all_eq_false];exact ⟨c, List.mem_of_getElem? h, by simp [hc]⟩
  simp [this]
theorem zhd {c : UInt8} (h : isLet c = true) : isWrd c = true := by unfold isWrd; simp [h]
theorem z6b {l : List UInt8} {k : Nat} {c : UInt8} (h : l[k]? = some c) (hc : isWrd c = true) (ha : (l.take k).all isWrd = true) : (l.take (k + 1)).all isWrd = true := by
 rw [List.take_add_one, h, List.all_append, ha]; simp [hc]
theorem z4d (t : BA) (w : World) (ht : t.size <= 140737488351232) : Calls Tryz.prog 268 #[.string t] w fun e w' => e = .returned (.bool (nameB t.data.toList)) /\ w' = w := by
 by_cases h0 : t.size < 1
 ·have HE : Hid (nameB t.data.toList = false) := hid (by
   cases hl : t.data.toList with
   | nil => rfl
   | cons c r => have := z07 t; rw [hl] at this; simp at this; omega)
  have g : (t.size : Int) < 1 := by omega
  go_enter Tryz.func268, Tryz.ntmps268
  go_wp2;go_ret;exact ⟨by rw [HE.out]; rfl, rfl⟩
 have m : ¬ (t.size : Int) < 1 := by omega
 have b := z3g t 0 (by omega)
 by_cases h1 : 32 < t.size
 ·have HE : Hid (nameB t.data.toList = false) := hid (by rw [z4e b, decide_eq_false (by rw [z07]; omega)]; rfl)
  have n : (32 : Int) < (t.size : Int) := by omega
  clear b
  go_enter Tryz.func268, Tryz.ntmps268
  go_wp2;go_ret;exact ⟨by rw [HE.out]; rfl, rfl⟩
 have o : ¬ (32 : Int) < (t.size : Int) := by omega
 have p : 0 < t.size := by omega
 have HL := hid (fun w => z2r t[0] w)
 cases hlet : isLet t[0] with
 | false =>
  have HE : Hid (nameB t.data.toList = false) := hid (by rw [z4e b, hlet]; simp);rw [hlet] at HL;clear b hlet
  go_enter Tryz.func268, Tryz.ntmps268
  go_wp2_with fail
  refine (HL.out _).mono ?_;rintro e w1 ⟨rfl, rfl⟩;go_wp2;go_ret;exact ⟨by rw [HE.out]; rfl, rfl⟩
 | true =>
  have HE : Hid (nameB t.data.toList = t.data.toList.all isWrd) := hid (by rw [z4e b, hlet, decide_eq_true (by rw [z07]; omega)]; rfl);rw [hlet] at HL;clear b hlet
  go_enter Tryz.func268, Tryz.ntmps268
  go_wp2_with fail
  refine (HL.out _).mono ?_;rintro e w1 ⟨rfl, rfl⟩;clear HL;go_wp2
  go_loop [21] (fun i => ∃ k : Nat, i = .int .i64 k /\ k <= t.size /\ Hid ((t.data.toList.take k).all isWrd = true)) (fun i => t.size - (intOf i).toNat)
  case atStart => exact ⟨0, rfl, by omega, hid rfl⟩
  case round =>
   obtain ⟨k, rfl, hk, HA⟩ := hrel
   by_cases g : k < t.size
   ·have d := hid (z3g t k g)
    have j : (k : Int) < (t.size : Int) := by omega
    obtain ⟨c, l⟩ : ∃ c, t[k] = c := ⟨_, rfl⟩;rw [l] at d;have HL := hid (fun w => z2r c w);have q := c.toNat_lt
    cases hlc : isLet c with
    | true =>
     have f := hid (z6b d.out (zhd hlc) HA.out);rw [hlc] at HL;clear hlc
     go_wp2_with fail
     refine (HL.out _).mono ?_;rintro e w1 ⟨rfl, rfl⟩;go_wp2
     go_round
     case rel => exact ⟨k + 1, by go_num, by omega, f⟩
     case measure => simp [intOf]; omega
    | false =>
     rw [hlc] at HL
     by_cases hd : 48 <= c.toNat /\ c.toNat <= 57
     ·have f := hid (z6b d.out (show isWrd c = true by unfold isWrd isDig; simp [hd.1, hd.2]) HA.out)
      have g1 : ¬ (c.toNat : Int) < 48 := by omega
      have g2 : ¬ (57 : Int) < (c.toNat : Int) := by omega
      clear hlc hd
      go_wp2_with fail
      refine (HL.out _).mono ?_;rintro e w1 ⟨rfl, rfl⟩;go_wp2
      go_round
      case rel => exact ⟨k + 1, by go_num, by omega, f⟩
      case measure => simp [intOf]; omega
     ·have a : isDig c = false := by unfold isDig; simp; omega
      by_cases hu : c.toNat = 95
      ·have f := hid (z6b d.out (show isWrd c = true by unfold isWrd; have : c = 95 := UInt8.toNat_inj.1 hu; simp [this]) HA.out)
       have g1 : ¬ (c.toNat : Int) < 48 := by omega
       have g2 : (57 : Int) < (c.toNat : Int) := by omega
       have g3 : ((c.toNat : Int) != (95 : Int)) = false := by simp; omega
       clear hlc hd a hu
       go_wp2_with fail
       refine (HL.out _).mono ?_;rintro e w1 ⟨rfl, rfl⟩;go_wp2
       go_round
       case rel => exact ⟨k + 1, by go_num, by omega, f⟩
       case measure => simp [intOf]; omega
      ·have HN := hid (zdp d.out (show isWrd c = false by unfold isWrd; have : c ≠ 95 := fun e => hu (by rw [e]; rfl); simp [hlc, a, this]))
       have g3 : ((c.toNat : Int) != (95 : Int)) = true := by simp; omega
       by_cases h48 : c.toNat < 48
       ·have g1 : (c.toNat : Int) < 48 := by omega
        clear hlc hd a hu
        go_wp2_with fail
        refine (HL.out _).mono ?_;rintro e w1 ⟨rfl, rfl⟩;go_wp2;go_ret;exact ⟨by rw [HN.out]; rfl, rfl⟩
       ·have g1 : ¬ (c.toNat : Int) < 48 := by omega
        have g2 : (57 : Int) < (c.toNat : Int) := by omega
        clear hlc hd a hu
        go_wp2_with fail
        refine (HL.out _).mono ?_;rintro e w1 ⟨rfl, rfl⟩;go_wp2;go_ret;exact ⟨by rw [HN.out]; rfl, rfl⟩
   ·have HT : Hid (nameB t.data.toList = true) := hid (by
     have h := HA.out;rw [List.take_of_length_le (by simp; omega)] at h
     rw [HE.out]; exact h)
    have j : ¬ (k : Int) < (t.size : Int) := by omega
    go_wp2;go_ret;exact ⟨by rw [HT.out]; rfl, rfl⟩
end Go.Proofs.YtdkkkeoicekdgaaGreatDoor

end

section

namespace Go.Proofs
open Go.Shelf
def Tryz.lays144_ren : Go.Shelf.Ren := ⟨fun | 144 => 285 | 143 => 244 | 219 => 266 | 217 => 279 | 225 => 280 | 224 => 281 | 267 => 282 | 266 => 289 | 314 => 290 | n => n, fun | 9 => 9 | 4 => 4 | 3 => 3 | 5 => 5 | 46 => 177 | 146 => 252 | 51 => 168 | n => n, fun | 1 => 0 | n => n⟩
theorem Tryz.lays144 : Go.Proofs.Lays.n144 Tryz.prog Tryz.lays144_ren := {
 mixed := by kernel_rfl
 f143 := Tryz.func244.trans (congrArg some (by kernel_rfl))
 f144 := Tryz.func285.trans (congrArg some (by kernel_rfl))
 f217 := Tryz.func279.trans (congrArg some (by kernel_rfl))
 f219 := Tryz.func266.trans (congrArg some (by kernel_rfl))
 f224 := Tryz.func281.trans (congrArg some (by kernel_rfl))
 f225 := Tryz.func280.trans (congrArg some (by kernel_rfl))
 f266 := Tryz.func289.trans (congrArg some (by kernel_rfl))
 f267 := Tryz.func282.trans (congrArg some (by kernel_rfl))
 f314 := Tryz.func290.trans (congrArg some (by kernel_rfl))
 t3 := Tryz.underlying3
 a3 := Tryz.isAgg3
 z3 := Tryz.sizeOf3
 v3 := Tryz.zeroValue3
 t4 := Tryz.underlying4
 a4 := Tryz.isAgg4
 z4 := Tryz.sizeOf4
 v4 := Tryz.zeroValue4
 t5 := Tryz.underlying5
 a5 := Tryz.isAgg5
 z5 := Tryz.sizeOf5
 v5 := Tryz.zeroValue5
 t9 := Tryz.underlying9
 a9 := Tryz.isAgg9
 z9 := Tryz.sizeOf9
 v9 := Tryz.zeroValue9
 t46 := Tryz.underlying177
 a46 := Tryz.isAgg177
 z46 := Tryz.sizeOf177
 v46 := Tryz.zeroValue177
 t51 := Tryz.underlying168
 a51 := Tryz.isAgg168
 z51 := Tryz.sizeOf168
 v51 := Tryz.zeroValue168
 t146 := Tryz.underlying252
 a146 := Tryz.isAgg252
 z146 := Tryz.sizeOf252
 v146 := Tryz.zeroValue252
 g1 := by kernel_rfl }
open Go.RowKit Go.Lib in
theorem Tryz.strings_Contains_one (s : ByteArray) (c : UInt8) (w : World) :
  Calls Tryz.prog 285 #[.string s, .string ⟨#[c]⟩] w fun e w' => e = .returned (.bool (decide (0 <= Lib.indexByte s.data.toList c))) /\ w' = w := Any.strings_Contains_one Tryz.lays144 s c w
end Go.Proofs

end

section

namespace Go.Proofs.YtdkkkeoicekdgaaGreatDoor
set_option maxHeartbeats 1600000
set_option maxRecDepth 100000
open Go.Lib (hid)
open Go.RowKit
def RdAt (w : World) (rb : Nat) (s : BA) (o : Nat) (S : St) : Prop := w.heap[rb]? = some (.cells #[.string s, .int .i64 S.1, .int .i64 o, .int .i64 S.2] 234 (0, 0))
section
variable {w w' : World} {rb : Nat} {s : BA} {o : Nat} {S : St}
theorem RdAt.row (h : RdAt w rb s o S) : Row w rb 234 [.string s, .int .i64 S.1, .int .i64 o, .int .i64 S.2] := h
theorem RdAt.lt (h : RdAt w rb s o S) : rb < w.heap.size := (Array.getElem?_eq_some_iff.1 h).1
theorem RdAt.c0 (h : RdAt w rb s o S) : w.cell? ⟨rb, 0, none⟩ = some (.string s) := h.row.cell rfl
theorem RdAt.c1 (h : RdAt w rb s o S) : w.cell? ⟨rb, 1, none⟩ = some (.int .i64 S.1) := h.row.cell rfl
theorem RdAt.c2 (h : RdAt w rb s o S) : w.cell? ⟨rb, 2, none⟩ = some (.int .i64 o) := h.row.cell rfl
theorem RdAt.c3 (h : RdAt w rb s o S) : w.cell? ⟨rb, 3, none⟩ = some (.int .i64 S.2) := h.row.cell rfl
theorem RdAt.thaw (h : RdAt w rb s o S) (i : Nat) : w.frozen? ⟨rb, i, none⟩ = false := h.row.thaw i
theorem RdAt.keep (h : RdAt w rb s o S) (hk : w'.heap[rb]? = w.heap[rb]?) : RdAt w' rb s o S := hk.trans h
theorem RdAt.same (h : RdAt w rb s o S) (hk : Same w w') : RdAt w' rb s o S := h.keep (by rw [hk.heap])
theorem RdAt.below (h : RdAt w rb s o S) (hk : Below w.heap.size w w') : RdAt w' rb s o S := h.keep (hk.block rb h.lt)
theorem RdAt.alloc (h : RdAt w rb s o S) (ob : Obj) : RdAt (w.alloc ob) rb s o S := h.keep (Below.heap_alloc _ _ _ h.lt)
theorem RdAt.set1 (h : RdAt w rb s o S) (a : Nat) : RdAt (w.setCell ⟨rb, 1, none⟩ (.int .i64 a)) rb s o (a, S.2) := h.row.set 1 _
theorem RdAt.set2 (h : RdAt w rb s o S) (p : Nat) : RdAt (w.setCell ⟨rb, 2, none⟩ (.int .i64 p)) rb s p S := h.row.set 2 _
theorem RdAt.set3 (h : RdAt w rb s o S) (e : Nat) : RdAt (w.setCell ⟨rb, 3, none⟩ (.int .i64 e)) rb s o (S.1, e) := h.row.set 3 _
end
theorem z0k {w : World} {rb : Nat} (i : Nat) (u : Value) : Fr (· = rb) w (w.setCell ⟨rb, i, none⟩ u) := Fr.setCell (X := (· = rb)) (Fr.refl _ w) (p := ⟨rb, i, none⟩) (.inr rfl) u
def restF (s : BA) (S : St) : BA := if S.2 = 0 then s.extract S.1 s.size else ⟨#[]⟩
theorem z3e {s : BA} {S : St} (h : S.2 = 0) : (restF s S).data.toList = s.data.toList.drop S.1 := by
 unfold restF; rw [if_pos h]; simp only [ByteArray.data_extract, Array.toList_extract]; rw [List.extract_eq_take_drop, List.take_of_length_le (by simp)]
theorem z1w {s : BA} {S : St} (h : S.2 ≠ 0) : restF s S = ⟨#[]⟩ := by unfold restF; rw [if_neg h]
theorem z5e (rb : Nat) (s : BA) (o : Nat) (S : St) (w : World) (_hs : s.size <= 2000) (hS : Wf s.data.toList S) (hR : RdAt w rb s o S) :
  Calls Tryz.prog 190 #[.pointer (some ⟨rb, 0, none⟩)] w fun e w' => e = .returned (.tuple #[]) /\ RdAt w' rb s o (failF s.data.toList S) /\ Fr (· = rb) w w' := by
 obtain ⟨a, st⟩ := S;have c0 := hR.c0;have c1 := hR.c1;have c3 := hR.c3;have z3 := hR.thaw 3;simp only at c1 c3;have HR := hid hR;have f := hS.1;rw [z07] at f;simp only at f;clear hR hS
 by_cases hst : st = 0
 ·subst hst
  by_cases he : a = s.size
  ·have HE : Hid (failF s.data.toList (a, 0) = (a, 10)) := hid (by unfold failF; simp [he])
   have HQ : Hid (RdAt (w.setCell ⟨rb, 3, none⟩ (.int .i64 10)) rb s o (a, 10)) := hid (HR.out.set3 10)
   have hB : ((a : Int) == (s.size : Int)) = true := by simp; omega
   clear he
   go_enter Tryz.func190, Tryz.ntmps190
   go_wp2
   go_quiet (fail)
   generalize hw0 : w.drewN nq = w2
   have b : Same w w2 := by rw [<- hw0]; exact (Same.refl _).drewN _
   have c := hid (HR.out.same b);have d : Hid (Fr (· = rb) w w2) := hid (Fr.of_same b);clear b hw0 HQ c0 c1 c3 z3;have z3 := c.out.thaw 3;have c3 := c.out.c3;go_wp2
   go_end0
   exact ⟨rfl, by rw [HE.out]; exact c.out.set3 10, d.out.trans (z0k 3 _)⟩
  ·have HE : Hid (failF s.data.toList (a, 0) = (a, 90)) := hid (by unfold failF; simp [he])
   have hB : ((a : Int) == (s.size : Int)) = false := by simp; omega
   clear he
   go_enter Tryz.func190, Tryz.ntmps190
   go_wp2
   go_quiet (fail)
   generalize hw0 : w.drewN nq = w2
   have b : Same w w2 := by rw [<- hw0]; exact (Same.refl _).drewN _
   have c := hid (HR.out.same b);have d : Hid (Fr (· = rb) w w2) := hid (Fr.of_same b);clear b hw0 c0 c1 c3 z3;have z3 := c.out.thaw 3;have c3 := c.out.c3;go_wp2
   go_end0
   exact ⟨rfl, by rw [HE.out]; exact c.out.set3 90, d.out.trans (z0k 3 _)⟩
 ·have HE : Hid (failF s.data.toList (a, st) = (a, st)) := hid (z1i hst)
  have hB : ((st : Int) != (0 : Int)) = true := by simp; omega
  go_enter Tryz.func190, Tryz.ntmps190
  go_wp2
  go_end0
  exact ⟨rfl, by rw [HE.out]; exact HR.out, Fr.refl _ _⟩
theorem z30 (rb : Nat) (s : BA) (o : Nat) (S : St) (w : World) (_hs : s.size <= 2000) (hS : Wf s.data.toList S) (hR : RdAt w rb s o S) :
  Calls Tryz.prog 218 #[.pointer (some ⟨rb, 0, none⟩)] w fun e w' => e = .returned (.string (restF s S)) /\ Same w w' := by
 obtain ⟨a, st⟩ := S;have c0 := hR.c0;have c1 := hR.c1;have c3 := hR.c3;simp only at c1 c3;have b := hS.1;rw [z07] at b;simp only at b;clear hR hS
 by_cases hst : st = 0
 ·subst hst
  have HE : Hid (restF s (a, 0) = s.extract a s.size) := hid rfl
  go_enter Tryz.func218, Tryz.ntmps218
  go_wp2
  go_quiet (fail)
  go_wp2;go_ret;exact ⟨by rw [HE.out]; rfl, (Same.refl _).drewN _⟩
 ·have HE : Hid (restF s (a, st) = ⟨#[]⟩) := hid (z1w hst)
  have hB : ((st : Int) != (0 : Int)) = true := by simp; omega
  go_enter Tryz.func218, Tryz.ntmps218
  go_wp2;go_ret;exact ⟨by rw [HE.out]; rfl, Same.refl _⟩
theorem z2k (rb : Nat) (s t : BA) (o : Nat) (S : St) (w : World) (hs : s.size <= 2000) (hS : Wf s.data.toList S) (ht : 0 < t.size) (hR : RdAt w rb s o S) :
  Calls Tryz.prog 219 #[.pointer (some ⟨rb, 0, none⟩), .string t] w fun e w' => e = .returned (.bool (nextF s.data.toList t.data.toList S)) /\ Same w w' := by
 have HC := hid (z30 rb s o S w hs hS hR)
 have HE : Hid (Lib.hasPrefix (restF s S).data.toList t.data.toList = nextF s.data.toList t.data.toList S) := hid (by
  unfold nextF
  by_cases h0 : S.2 = 0
  ·rw [z3e h0]; simp [h0, Lib.hasPrefix]
  ·rw [z1w h0]; simp only [h0, decide_false, Bool.false_and, Lib.hasPrefix]
   cases ht2 : t.data.toList with
   | nil => have := z07 t; rw [ht2] at this; simp at this; omega
   | cons c r => rfl)
 clear hR hS
 go_enter Tryz.func219, Tryz.ntmps219
 go_wp2_with fail
 refine HC.out.mono ?_;rintro e w2 ⟨rfl, a⟩;have HW := hid a;clear a HC
 go_wp2_with fail
 refine (Tryz.strings_HasPrefix _ _ _).mono ?_;rintro e w3 ⟨rfl, rfl⟩;go_wp2;go_ret;exact ⟨by rw [<- HE.out]; rfl, HW.out⟩
end Go.Proofs.YtdkkkeoicekdgaaGreatDoor

end

section

namespace Go.Proofs.YtdkkkeoicekdgaaGreatDoor
set_option maxHeartbeats 1600000
set_option maxRecDepth 100000
open Go.Lib (hid)
open Go.RowKit
theorem z3j {s : BA} {S : St} (h : Wf s.data.toList S) : S.1 <= s.size := by have := h.1; rw [z07] at this; exact this
theorem z2z {l : List UInt8} {S T : St} (h : Ge l S T) (hS : Wf l S) : Wf l T := h.2.1 hS
theorem zad {s : BA} {S : St} {c : UInt8} (h0 : S.2 = 0) (hx : s.data.toList[S.1]? = some c) : ∃ r, restF s S = ⟨(c :: r).toArray⟩ /\ (c :: r).length + S.1 = s.size /\ c :: r = s.data.toList.drop S.1 := by
 obtain ⟨hi, he⟩ := List.getElem?_eq_some_iff.1 hx;refine ⟨s.data.toList.drop (S.1 + 1), ?_, ?_, ?_⟩
 ·have h := z3e (s := s) h0
  rw [List.drop_eq_getElem_cons hi, he] at h;rw [<- h]
 ·have := z07 s; simp at hi ⊢; omega
 ·rw [List.drop_eq_getElem_cons hi, he]
theorem zac {s : BA} {S : St} (hx : S.2 = 0 -> s.data.toList[S.1]? = none) : restF s S = ⟨#[]⟩ := by
 by_cases h0 : S.2 = 0
 ·have h := z3e (s := s) h0
  have := hx h0;rw [List.getElem?_eq_none_iff] at this;rw [List.drop_eq_nil_iff.2 this] at h
  cases hr : restF s S with
  | mk d => rw [hr] at h; simp at h; rw [h]
 ·exact z1w h0
theorem one_in {l m : List UInt8} {S : St} {c : UInt8} (h0 : S.2 = 0) (hx : l[S.1]? = some c) (hm : c ∈ m) : oneF l m S = ([c], (S.1 + 1, 0)) := by
 unfold oneF; rw [if_pos h0, hx]; simp [hm]
theorem zgu {l m : List UInt8} {S : St} (h : ∀ c, S.2 = 0 -> l[S.1]? = some c -> c ∉ m) : oneF l m S = ([], failF l S) := by
 unfold oneF
 split
 ·rename_i h0
  split
  ·rename_i c hc; rw [if_neg (h c h0 hc)]
  ·rfl
 ·rename_i h0; rw [z1i h0]
theorem zat : ∀ (m : List UInt8) (c : UInt8), decide (0 <= Lib.indexByte m c) = decide (c ∈ m)
 | [], c => rfl
 | b :: l, c => by
  have ih := zat l c;have d := Lib.indexByte_ge l c;rw [Lib.indexByte]
  by_cases hbc : b = c
  ·subst hbc; simp
  ·have a : ¬ c = b := fun e => hbc e.symm
   rw [if_neg (by simp [hbc])];simp only [decide_eq_decide] at ih ⊢;rw [List.mem_cons]
   by_cases h1 : Lib.indexByte l c = -1
   ·rw [if_pos (by simp [h1])]
    rw [h1] at ih
    constructor
    ·intro h; omega
    ·rintro (h | h)
     ·exact absurd h a
     ·have := ih.2 h; omega
   ·rw [if_neg (by simp [h1])]
    constructor
    ·intro h; exact .inr (ih.1 (by omega))
    ·intro _; omega
theorem z91 (rb : Nat) (s m : BA) (o : Nat) (S : St) (w : World) (hs : s.size <= 2000) (hS : Wf s.data.toList S) (hR : RdAt w rb s o S) :
  Calls Tryz.prog 270 #[.pointer (some ⟨rb, 0, none⟩), .string m] w fun e w' => e = .returned (.string (ba (oneF s.data.toList m.data.toList S).1)) /\ RdAt w' rb s o (oneF s.data.toList m.data.toList S).2 /\ Fr (· = rb) w w' := by
 have HC := hid (z30 rb s o S w hs hS hR);have HF := hid (fun w2 (h : RdAt w2 rb s o S) => z5e rb s o S w2 hs hS h);have HR := hid hR;have q := z3j hS;clear hR
 by_cases hx : ∃ c, S.2 = 0 /\ s.data.toList[S.1]? = some c
 ·obtain ⟨c, h0, hx⟩ := hx
  obtain ⟨r, g, t, -⟩ := zad h0 hx;have u := za4 c r;have v := zi4 c r;have x : (c :: r).length = r.length + 1 := rfl
  have y : ((⟨(c :: r).toArray⟩ : BA).toList.isEmpty) = false := by rw [ByteArray.toList_eq]; rfl
  rw [g] at HC;have HI := hid (zat m.data.toList c)
  by_cases hm : c ∈ m.data.toList
  ·have HE := hid (one_in h0 hx hm)
   rw [decide_eq_true hm] at HI;obtain ⟨a, st⟩ := S;simp only at h0 t q HE;subst h0;clear hx hm g
   go_enter Tryz.func270, Tryz.ntmps270
   go_wp2_with fail
   refine HC.out.mono ?_;rintro e w2 ⟨rfl, b⟩;have f := hid (HR.out.same b);have i : Hid (Fr (· = rb) w w2) := hid (Fr.of_same b);clear b HC
   generalize (⟨(c :: r).toArray⟩ : BA) = R at *
   go_wp2_with fail
   refine (Tryz.strings_Contains_one _ _ _).mono ?_;rintro e w3 ⟨rfl, rfl⟩;rw [HI.out];have c1 := f.out.c1;have z1 := f.out.thaw 1;simp only at c1;go_wp2;go_ret;rw [HE.out];exact ⟨rfl, f.out.set1 (a + 1), i.out.trans (z0k 1 _)⟩
  ·have HE := hid (zgu (l := s.data.toList) (m := m.data.toList) (S := S) (fun d _ hd => by rw [hx] at hd; injection hd with hd; rw [<- hd]; exact hm))
   rw [decide_eq_false hm] at HI;clear hx hm g
   go_enter Tryz.func270, Tryz.ntmps270
   go_wp2_with fail
   refine HC.out.mono ?_;rintro e w2 ⟨rfl, b⟩;have f := hid (HR.out.same b);have i : Hid (Fr (· = rb) w w2) := hid (Fr.of_same b);clear b HC
   generalize (⟨(c :: r).toArray⟩ : BA) = R at *
   go_wp2_with fail
   refine (Tryz.strings_Contains_one _ _ _).mono ?_;rintro e w3 ⟨rfl, rfl⟩;rw [HI.out]
   go_wp2_with fail
   refine (HF.out _ f.out).mono ?_;rintro e w4 ⟨rfl, j, k⟩;have n := hid j;have p := hid (i.out.trans k);clear j k;go_wp2;go_ret;rw [HE.out];exact ⟨rfl, n.out, p.out⟩
 ·have g : restF s S = ⟨#[]⟩ := zac (fun h0 => by
   cases hq : s.data.toList[S.1]? with
   | none => rfl
   | some c => exact absurd ⟨c, h0, hq⟩ hx)
  have HE := hid (zgu (l := s.data.toList) (m := m.data.toList) (S := S) (fun d h0 hd => absurd ⟨d, h0, hd⟩ hx));rw [g] at HC;clear g hx
  go_enter Tryz.func270, Tryz.ntmps270
  go_wp2_with fail
  refine HC.out.mono ?_;rintro e w2 ⟨rfl, b⟩;have f := hid (HR.out.same b);have i : Hid (Fr (· = rb) w w2) := hid (Fr.of_same b);clear b HC
  go_wp2_with fail
  refine (HF.out _ f.out).mono ?_;rintro e w4 ⟨rfl, j, k⟩;have n := hid j;have p := hid (i.out.trans k);clear j k;go_wp2;go_ret;rw [HE.out];exact ⟨rfl, n.out, p.out⟩
theorem z14 (rb : Nat) (s t : BA) (o : Nat) (S : St) (w : World) (hs : s.size <= 2000) (ht : t.size <= 100) (hS : Wf s.data.toList S) (hR : RdAt w rb s o S) :
  Calls Tryz.prog 247 #[.pointer (some ⟨rb, 0, none⟩), .string t] w fun e w' => e = .returned (.tuple #[]) /\ RdAt w' rb s o (wordF s.data.toList t.data.toList S) /\ Fr (· = rb) w w' := by
 have HR := hid hR;have HS := hid hS;clear hR hS
 go_enter Tryz.func247, Tryz.ntmps247
 go_wp2
 go_loopw [7] (fun i wr => ∃ (k : Nat) (T : St), k <= t.size /\ i = .int .i64 k /\ Hid (Wf s.data.toList T) /\ Hid (RdAt wr rb s o T) /\ Hid (Fr (· = rb) w wr) /\ Hid (wordF s.data.toList t.data.toList S = wordF s.data.toList (t.data.toList.drop k) T)) (fun i _ => t.size - (intOf i).toNat)
 case atStart => exact ⟨0, S, by omega, rfl, HS, HR, hid (Fr.refl _ _), hid (by rw [List.drop_zero])⟩
 case round =>
  obtain ⟨k, T, hk, rfl, HT, b, HF, HW⟩ := hrel;clear HR
  by_cases hlt : k < t.size
  ·have hc := z3g t k hlt
   have HD := hid (HW.out.trans (by rw [drop_at hc, wordF]));have HN := hid (fun (m : BA) => z91 rb s m o T wr hs HT.out b.out);have HX : Hid ((ByteArray.extract t k (k + 1)).data.toList = [t[k]]) := hid (by rw [zcp t k hlt]);clear hc HW
   generalize t[k] = c at *
   go_wp2_with fail
   refine (HN.out _).mono ?_;rintro e w2 ⟨rfl, a, d⟩;rw [HX.out] at a;have f := hid a;have g := hid (HF.out.trans d);have h := hid (z2z (z1f s.data.toList [c] T) HT.out);clear a d HN HX;go_wp2;go_roundw
   case rel => exact ⟨k + 1, _, by omega, by go_num, h, f, g, HD⟩
   case measure => simp [intOf]; omega
  ·have HD : Hid (t.data.toList.drop k = []) := hid (by rw [List.drop_eq_nil_iff]; simp; omega)
   go_wp2
   go_end0
   exact ⟨rfl, by rw [HW.out, HD.out]; exact b.out, HF.out⟩
end Go.Proofs.YtdkkkeoicekdgaaGreatDoor

end

section

namespace Go.Proofs.YtdkkkeoicekdgaaGreatDoor
def nowF (l : List UInt8) (S : St) : Option UInt8 := if S.2 = 0 then l[S.1]? else none
def runL (l : List UInt8) (w : UInt8 -> Bool) (p : List UInt8 -> Bool) : Nat -> List UInt8 -> St -> List UInt8 × St
  | 0, acc, S => (acc, S)
  | f + 1, acc, S => match nowF l S with
    | some c => if w c then (if p (acc ++ [c]) then runL l w p f (acc ++ [c]) (S.1 + 1, 0) else ([], failF l S)) else (acc, S)
    | none => (acc, S)
def isNow (l : List UInt8) (w : UInt8 -> Bool) (S : St) : Bool := match nowF l S with | some c => w c | none => false
def dName (l : List UInt8) (S : St) : List UInt8 × St := runL l isWrd nameB 33 [] (if isNow l isLet S then S else failF l S)
def dDig (l : List UInt8) (S : St) : List UInt8 × St := runL l isDig numB 33 [] S
def dKey (l : List UInt8) (S : St) : List UInt8 × St :=
  if nowF l S = some 61 then
    (if isNow l isDig (S.1 + 1, 0) then (if (dDig l (S.1 + 1, 0)).2.2 = 0 then 61 :: (dDig l (S.1 + 1, 0)).1 else [], (dDig l (S.1 + 1, 0)).2)
     else ([61], failF l (S.1 + 1, 0)))
  else dName l S
theorem z0b {l : List UInt8} {S : St} {c : UInt8} (h : nowF l S = some c) : S.2 = 0 /\ l[S.1]? = some c := by
  unfold nowF at h; split at h
  · rename_i h0; exact ⟨h0, h⟩
  · cases h
theorem z2w {l : List UInt8} {S : St} {c : UInt8} (h0 : S.2 = 0) (h : l[S.1]? = some c) : nowF l S = some c := by unfold nowF; rw [if_pos h0, h]
theorem z12 {l : List UInt8} {S : St} (h : S.2 ≠ 0) : nowF l S = none := by unfold nowF; rw [if_neg h]
theorem z1t {l : List UInt8} {S : St} {c : UInt8} : nextF l [c] S = true ↔ nowF l S = some c := by
  rw [z1h]
  constructor
  · intro h; exact z2w h.1 h.2
  · intro h; exact z0b h
theorem z2j {l : List UInt8} {S : St} {c : UInt8} (h : nowF l S ≠ some c) : nextF l [c] S = false := by
  cases hn : nextF l [c] S with
  | false => rfl
  | true => exact absurd (z1t.1 hn) h
theorem z28 {l r : List UInt8} {S : St} {c : UInt8} (h : nowF l S ≠ some c) : wordF l (c :: r) S = failF l S := by
  by_cases h0 : S.2 = 0
  · rw [wordF]
    have : (oneF l [c] S).2 = failF l S := by
      unfold oneF
      rw [if_pos h0]
      cases hx : l[S.1]? with
      | none => rfl
      | some d =>
        simp only;rw [if_neg];intro hd
        obtain rfl : d = c := by simpa using hd
        exact h (z2w h0 hx)
    rw [this, z0j l r (z0t l S)]
  · rw [z0j l _ h0, z1i h0]
theorem z5k {l r : List UInt8} {S : St} {c : UInt8} (h : nowF l S = some c) : wordF l (c :: r) S = wordF l r (S.1 + 1, 0) := z3i (z1t.2 h)
theorem z55 {l : List UInt8} {w : UInt8 -> Bool} {p : List UInt8 -> Bool} {f : Nat} {acc : List UInt8} {S : St} (h : S.2 ≠ 0) : runL l w p f acc S = (acc, S) := by
  cases f with
  | zero => rw [runL]
  | succ f => rw [runL, z12 h]
def Gd (l : List UInt8) (D P : List UInt8 × St) : Prop :=
  (D.2 = P.2 /\ (D.2.2 = 0 -> D.1 = P.1)) ∨ (P.2.2 = 0 /\ D.2 = failF l P.2 /\ ∃ c, l[P.2.1]? = some c /\ isWrd c = true)
theorem run_at {l : List UInt8} {w : UInt8 -> Bool} {p : List UInt8 -> Bool} (hw : ∀ acc c, p (acc ++ [c]) = true -> w c = true) {a n : Nat} (hn : longN p (l.drop a) l.length 0 = n) :
    ∀ (d k f : Nat), k + d = n -> d < f -> runL l w p f ((l.drop a).take k) (a + k, 0) = if isNow l w (a + n, 0) then ([], failF l (a + n, 0)) else ((l.drop a).take n, (a + n, 0))
  | d, k, 0, _, hf => by omega
  | d, k, f + 1, hk, hf => by
    have m := (z4g p (l.drop a) l.length 0 (Nat.zero_le _)).2;rw [hn] at m
    have o : (l.drop a).length = l.length - a := by simp
    have b : ∀ c, (l.drop a)[k]? = some c -> (l.drop a).take k ++ [c] = (l.drop a).take (k + 1) := fun c hc => by
      obtain ⟨g, hx⟩ := List.getElem?_eq_some_iff.1 hc;rw [List.take_succ_eq_append_getElem g, hx]
    have h : (l.drop a)[k]? = l[a + k]? := by simp
    rw [runL]
    by_cases hkn : k < n
    · have g : k < (l.drop a).length := by omega
      obtain ⟨c, hc⟩ : ∃ c, (l.drop a)[k]? = some c := ⟨_, List.getElem?_eq_getElem g⟩;have hp := z3z p (l.drop a) l.length 0 k (Nat.zero_le _) (by rw [hn]; exact hkn);rw [<- b c hc] at hp;rw [z2w (S := (a + k, 0)) rfl (by rw [<- h]; exact hc)];simp only;rw [if_pos (hw _ _ hp), if_pos hp, b c hc];exact run_at hw hn (d - 1) (k + 1) f (by omega) (by omega)
    · obtain rfl : k = n := by omega
      cases hc : (l.drop a)[k]? with
      | none =>
        have i : nowF l (a + k, 0) = none := by unfold nowF; rw [if_pos rfl, <- h, hc]
        rw [i];simp only [isNow, i, Bool.false_eq_true, if_false]
      | some c =>
        have j : nowF l (a + k, 0) = some c := z2w rfl (by rw [<- h]; exact hc);rw [j];simp only [isNow, j]
        by_cases hwc : w c = true
        · have g := (List.getElem?_eq_some_iff.1 hc).1
          have hp : p ((l.drop a).take (k + 1)) = false := by
            have := z40 p (l.drop a) l.length 0 (by omega) (by rw [hn]; exact g)
            rw [hn] at this; exact this
          rw [<- b c hc] at hp;rw [if_pos hwc, if_neg (by rw [hp]; simp), if_pos hwc]
        · rw [if_neg hwc, if_neg hwc]
theorem zdt {l : List UInt8} {w : UInt8 -> Bool} {p : List UInt8 -> Bool} {q : UInt8 -> Bool} (hw : ∀ acc c, p (acc ++ [c]) = true -> w c = true) (hq : ∀ c, p [c] = q c) (hqw : ∀ c, w c = true -> isWrd c = true) (hb : ∀ t, p t = true -> t.length < 33) (S : St) :
    Gd l (runL l w p 33 [] (if isNow l q S then S else failF l S)) (longF l p S) := by
  by_cases h0 : S.2 = 0
  · obtain ⟨a, s⟩ := S
    simp only at h0;subst h0
    by_cases hn : isNow l q (a, 0) = true
    · rw [if_pos hn]
      obtain ⟨n, hN⟩ : ∃ n, longN p (l.drop a) l.length 0 = n := ⟨_, rfl⟩
      obtain ⟨c, hc, f⟩ : ∃ c, nowF l (a, 0) = some c /\ q c = true := by
        unfold isNow at hn
        cases hx : nowF l (a, 0) with
        | none => rw [hx] at hn; cases hn
        | some c => rw [hx] at hn; exact ⟨c, rfl, hn⟩
      have hx := (z0b hc).2
      have g : l.drop a = c :: l.drop (a + 1) := by
        obtain ⟨b, he⟩ := List.getElem?_eq_some_iff.1 hx;rw [List.drop_eq_getElem_cons b, he]
      have i := z4g p (l.drop a) l.length 0 (Nat.zero_le _);rw [hN] at i
      have k : n ≠ 0 := by
        intro e;have := z40 p (l.drop a) l.length 0 (by simp) (by rw [hN, e, g]; simp);rw [hN, e, g] at this;simp only [Nat.zero_add, List.take_succ_cons, List.take_zero] at this;rw [hq c, f] at this
        cases this
      have m : n < 33 := by
        have := z3z p (l.drop a) l.length 0 (n - 1) (Nat.zero_le _) (by rw [hN]; omega);have h2 := hb _ this;rw [List.length_take] at h2
        omega
      have hR := run_at (l := l) (w := w) (p := p) hw hN n 0 33 (by omega) m;simp only [List.take_zero, Nat.add_zero] at hR;rw [hR]
      have hP : longF l p (a, 0) = ((l.drop a).take n, (a + n, 0)) := by unfold longF; rw [if_pos rfl]; simp only; rw [hN, if_neg k]
      rw [hP]
      by_cases he : isNow l w (a + n, 0) = true
      · rw [if_pos he]
        right
        refine ⟨rfl, rfl, ?_⟩
        unfold isNow at he
        cases hx : nowF l (a + n, 0) with
        | none => rw [hx] at he; cases he
        | some d => rw [hx] at he; exact ⟨d, (z0b hx).2, hqw d he⟩
      · rw [if_neg he]
        exact .inl ⟨rfl, fun _ => rfl⟩
    · rw [if_neg hn, z55 (z0t l _)]
      have hN : longN p (l.drop a) l.length 0 = 0 := by
        refine zdu (by simp) (Nat.zero_le _) (fun j hj => by omega) (fun b => ?_)
        obtain ⟨c, r, h⟩ : ∃ c r, l.drop a = c :: r := by
          cases hd : l.drop a with
          | nil => rw [hd] at b; simp at b
          | cons c r => exact ⟨c, r, rfl⟩
        rw [h];simp only [Nat.zero_add, List.take_succ_cons, List.take_zero];rw [hq c]
        have hx : l[a]? = some c := by
          have : (l.drop a)[0]? = some c := by rw [h]; rfl
          simpa using this
        cases f : q c with
        | false => rfl
        | true => exact absurd (by unfold isNow; rw [z2w (S := (a, 0)) rfl hx]; exact f) hn
      have hP : longF l p (a, 0) = ([], failF l (a, 0)) := by unfold longF; rw [if_pos rfl]; simp only; rw [hN, if_pos rfl]
      rw [hP];exact .inl ⟨rfl, fun _ => rfl⟩
  · have hn : isNow l q S = false := by unfold isNow; rw [z12 h0]
    rw [hn, z4f h0];simp only [Bool.false_eq_true, if_false];rw [z1i h0, z55 h0];exact .inl ⟨rfl, fun _ => rfl⟩
theorem dig_wrd (c : UInt8) (h : isDig c = true) : isWrd c = true := by unfold isWrd; simp [h]
theorem zdo (l : List UInt8) (S : St) : Gd l (dName l S) (longF l nameB S) := by
  refine zdt (q := isLet) (fun acc c h => ?_) (fun c => ?_) (fun c h => h) (fun t h => ?_) S
  · cases acc with
    | nil => simp only [List.nil_append, nameB, List.all_cons, Bool.and_eq_true] at h; exact h.2.1
    | cons d r =>
      simp only [List.cons_append, nameB, List.all_cons, List.all_append, Bool.and_eq_true] at h;exact h.2.2.2.1
  · simp only [nameB, List.all_cons, List.all_nil, List.length_nil]
    by_cases hl : isLet c = true
    · have : isWrd c = true := by unfold isWrd; simp [hl]
      simp [hl, this]
    · simp [hl]
  · cases t with
    | nil => simp [nameB] at h
    | cons d r => simp only [nameB, Bool.and_eq_true, decide_eq_true_eq] at h; simp only [List.length_cons]; omega
theorem dig_doc (l : List UInt8) (S : St) : Gd l (runL l isDig numB 33 [] (if isNow l isDig S then S else failF l S)) (longF l numB S) := by
  refine zdt (q := isDig) (fun acc c h => ?_) (fun c => ?_) (fun c h => dig_wrd c h) (fun t h => ?_) S
  · cases acc with
    | nil => simp only [List.nil_append, numB, List.all_cons, Bool.and_eq_true] at h; exact h.1.1.1.1
    | cons d r =>
      simp only [List.cons_append, numB, List.all_cons, List.all_append, Bool.and_eq_true] at h;exact h.1.1.1.2.2.1
  · simp only [numB, List.all_cons, List.all_nil, List.length_nil, List.isEmpty_nil, Bool.or_true, Bool.and_true, List.foldl_cons, List.foldl_nil]
    have hc := c.toNat_lt
    have : nx 0 c <= 1000000 := by unfold nx; omega
    simp [this]
  · cases t with
    | nil => simp [numB] at h
    | cons d r => simp only [numB, Bool.and_eq_true, decide_eq_true_eq] at h; simp only [List.length_cons]; omega
theorem key_doc (l : List UInt8) (S : St) : Gd l (dKey l S) (keyF l S) := by
  unfold dKey keyF
  by_cases h : nowF l S = some 61
  · rw [if_pos h, if_pos (z1t.2 h), z5k h]
    show Gd l _ ([61] ++ (longF l numB (wordF l [] (S.1 + 1, 0))).1, (longF l numB (wordF l [] (S.1 + 1, 0))).2)
    rw [wordF];have hd := dig_doc l (S.1 + 1, 0)
    by_cases hn : isNow l isDig (S.1 + 1, 0) = true
    · rw [if_pos hn] at hd ⊢
      unfold dDig
      rcases hd with ⟨h1, h2⟩ | ⟨h1, h2, h3⟩
      · exact .inl ⟨h1, fun h4 => by simp only at h4 ⊢; rw [if_pos h4, h2 h4]; rfl⟩
      · exact .inr ⟨h1, h2, h3⟩
    · rw [if_neg hn] at hd ⊢
      rw [z55 (z0t l _)] at hd
      rcases hd with ⟨h1, h2⟩ | ⟨h1, h2, h3⟩
      · exact .inl ⟨h1, fun h4 => absurd h4 (z0t l _)⟩
      · exact .inr ⟨h1, h2, h3⟩
  · rw [if_neg h, if_neg (by rw [z2j h]; simp)]
    exact zdo l S
theorem Gd.word {l : List UInt8} {D P : List UInt8 × St} (h : Gd l D P) {c : UInt8} {r : List UInt8} (hc : isWrd c = false) : wordF l (c :: r) D.2 = wordF l (c :: r) P.2 := by
  rcases h with ⟨h, -⟩ | ⟨h1, h2, d, h3, h4⟩
  · rw [h]
  · rw [h2, z0j l _ (z0t l _), z28]
    intro e;have := (z0b e).2;rw [h3] at this;obtain rfl := Option.some.inj this
    rw [hc] at h4; cases h4
theorem Gd.val {l : List UInt8} {D P : List UInt8 × St} (h : Gd l D P) {c : UInt8} {r : List UInt8} (hw : (wordF l (c :: r) P.2).2 = 0) (hc : isWrd c = false) : D.1 = P.1 /\ D.2 = P.2 := by
  rcases h with ⟨h, h'⟩ | ⟨h1, h2, d, h3, h4⟩
  · refine ⟨h' ?_, h⟩
    rw [h]; exact (z06 l _ _).live hw
  · rw [z28] at hw
    · exact absurd hw (z0t l _)
    · intro e
      have := (z0b e).2;rw [h3] at this;obtain rfl := Option.some.inj this
      rw [hc] at h4; cases h4

def addF (acc : List Pt) (c : UInt8) : List Pt := match acc.getLast? with
 | some x => if x.k = 1 then acc.dropLast ++ [.mk x.k (ba (x.t.data.toList ++ [c])) x.n x.cs] else acc ++ [.mk 1 (ba [c]) (ba []) []]
 | none => acc ++ [.mk 1 (ba [c]) (ba []) []]
abbrev seT : List UInt8 := [115, 101, 108, 101, 99, 116, 44]
abbrev plT : List UInt8 := [112, 108, 117, 114, 97, 108, 44]
def z1g (l : List UInt8) (cf : Bool -> St -> List Cs × St) (h : Bool) (S : St) : Pt × St :=
 let N := dName l (S.1 + 1, 0)
 if nowF l N.2 = some 125 then (.mk 2 (ba []) (ba N.1) [], (N.2.1 + 1, 0))
 else if nowF l (wordF l [44, 32] N.2) = some 115 then (.mk 5 (ba []) (ba N.1) (cf h (wordF l seT (wordF l [44, 32] N.2))).1, (cf h (wordF l seT (wordF l [44, 32] N.2))).2)
 else (.mk 4 (ba []) (ba N.1) (cf true (wordF l plT (wordF l [44, 32] N.2))).1, (cf true (wordF l plT (wordF l [44, 32] N.2))).2)
def isSp (d : UInt8) : Prop := d = 39 ∨ d = 123 ∨ d = 125 ∨ d = 35
instance (d : UInt8) : Decidable (isSp d) := by unfold isSp; infer_instance
mutual
def z05 (l : List UInt8) : Nat -> Nat -> Bool -> List Pt -> St -> List Pt × St
 | 0, _, _, acc, S => (acc, S)
 | f + 1, o, h, acc, S => match nowF l S with
  | none => (acc, S)
  | some c =>
   if c = 125 /\ 0 < o then (acc, S)
   else if c = 125 ∨ (c = 35 /\ h = false) then (acc, failF l S)
   else if c = 123 then z05 l f o h (acc ++ [(z1g l (fun h S => z0e l f o h [] S) h S).1]) (z1g l (fun h S => z0e l f o h [] S) h S).2
   else if c = 35 then z05 l f o h (acc ++ [.mk 3 (ba []) (ba []) []]) (S.1 + 1, 0)
   else if c = 39 then
    (match nowF l (S.1 + 1, 0) with
    | some d => if isSp d then z05 l f o h (addF acc d) (if d = 39 then (S.1 + 2, 0) else wordF l [39] (S.1 + 2, 0)) else (acc, failF l (S.1 + 1, 0))
    | none => (acc, failF l (S.1 + 1, 0)))
   else z05 l f o h (addF acc c) (S.1 + 1, 0)
def z0e (l : List UInt8) : Nat -> Nat -> Bool -> List Cs -> St -> List Cs × St
 | 0, _, _, acc, S => (acc, S)
 | f + 1, o, h, acc, S =>
  if S.2 = 0 then
   let K := dKey l (wordF l [32] S)
   let R := wordF l [32] K.2
   if nowF l R = some 123 /\ 32 <= o then (acc, (R.1, 12))
   else
    let P := z05 l f (o + 1) h [] (wordF l [123] R)
    let E := wordF l [125] P.2
    if nowF l E = some 125 then (acc ++ [.mk (ba K.1) P.1], (E.1 + 1, 0)) else z0e l f o h (acc ++ [.mk (ba K.1) P.1]) E
  else (acc, S)
end
theorem z47 {l : List UInt8} {f o : Nat} {h : Bool} {acc : List Pt} {S : St} (h0 : S.2 ≠ 0) : z05 l f o h acc S = (acc, S) := by
 cases f with
 | zero => rw [z05]
 | succ f => rw [z05, z12 h0]
theorem z2b {l : List UInt8} {f o : Nat} {h : Bool} {acc : List Cs} {S : St} (h0 : S.2 ≠ 0) : z0e l f o h acc S = (acc, S) := by
 cases f with
 | zero => rw [z0e]
 | succ f => rw [z0e, if_neg h0]
theorem z2v {l : List UInt8} {f o : Nat} {h : Bool} {acc : List Pt} {S : St} (h0 : S.2 ≠ 0) : z0c l f h o acc S = (acc, S) := by
 cases f with
 | zero => rw [z0c]
 | succ f => rw [z0c, if_neg (fun e => h0 e.1)]
theorem z48 {l : List UInt8} {f o : Nat} {h : Bool} {acc : List Cs} {b : List UInt8 × St} (hb : b.1 ≠ [32]) : z09 l f h o acc b = (acc, b.2) := by
 cases f with
 | zero => rw [z09]
 | succ f => rw [z09, if_neg hb]
abbrev tx (t : List UInt8) : Pt := .mk 1 (ba t) (ba []) []
theorem add_tx (acc : List Pt) (t : List UInt8) (c : UInt8) : addF (acc ++ [tx t]) c = acc ++ [tx (t ++ [c])] := by
 unfold addF; simp [Pt.k, Pt.t, Pt.n, Pt.cs]
theorem zcz {acc : List Pt} (h : ∀ x, acc.getLast? = some x -> x.k ≠ 1) (c : UInt8) : addF acc c = acc ++ [tx [c]] := by
 unfold addF
 cases hl : acc.getLast? with
 | none => rfl
 | some x => simp only; rw [if_neg (h x hl)]
def Stop (l : List UInt8) (S : St) : Prop := S.2 = 0 -> ∀ c, l[S.1]? = some c -> c = 123 ∨ c = 125 ∨ c = 35
theorem z0u {l : List UInt8} {S : St} {c : UInt8} (h : nowF l S = some c) : Wf l (S.1 + 1, 0) := ⟨z0z (z0b h).2, .inl rfl⟩
theorem z52 {l : List UInt8} {f : Nat} {acc : List UInt8} {S : St} (h : nowF l S = none) : textL l f acc S = (acc, S) := by
 cases f with
 | zero => rw [textL]
 | succ f =>
  rw [textL]
  by_cases h0 : S.2 = 0
  ·unfold nowF at h
   rw [if_pos h0] at h;rw [if_pos h0, h]
  ·rw [if_neg h0]
theorem z9y {l : List UInt8} {f : Nat} {acc : List UInt8} {S : St} {c : UInt8} (h : nowF l S = some c) : textL l (f + 1) acc S = if c = 123 ∨ c = 125 ∨ c = 35 then (acc, S) else if c = 39 then textL l f (acc ++ (quotF l S).1) (quotF l S).2 else textL l f (acc ++ [c]) (S.1 + 1, 0) := by
 obtain ⟨h0, hx⟩ := z0b h;rw [textL, if_pos h0, hx]
theorem zgg {l : List UInt8} {S : St} (h : nowF l S = some 39) : quotF l S = match nowF l (S.1 + 1, 0) with
  | some d => if isSp d then ([d], if d = 39 then (S.1 + 2, 0) else wordF l [39] (S.1 + 2, 0)) else ([], failF l (S.1 + 1, 0))
  | none => ([], failF l (S.1 + 1, 0)) := by
 unfold quotF
 rw [z5k h, wordF]
 have ho : oneF l [39, 123, 125, 35] (S.1 + 1, 0) = match nowF l (S.1 + 1, 0) with
   | some d => if isSp d then ([d], (S.1 + 2, 0)) else ([], failF l (S.1 + 1, 0))
   | none => ([], failF l (S.1 + 1, 0)) := by
  unfold oneF nowF
  simp only [if_true]
  cases hx : l[S.1 + 1]? with
  | none => rfl
  | some d =>
   simp only
   by_cases hd : isSp d
   ·rw [if_pos hd, if_pos (by unfold isSp at hd; simpa using hd)]
   ·rw [if_neg hd, if_neg (by unfold isSp at hd; simpa using hd)]
 rw [ho]
 cases hx : nowF l (S.1 + 1, 0) with
 | none => simp only; rw [if_neg (by simp), z0j l _ (z0t l _)]
 | some d =>
  simp only
  by_cases hd : isSp d
  ·rw [if_pos hd, if_pos hd]
   simp only
   by_cases h39 : d = 39
   ·subst h39; rw [if_pos rfl, if_pos rfl]
   ·rw [if_neg (by simpa using h39), if_neg h39]
  ·rw [if_neg hd, if_neg hd]
   simp only;rw [if_neg (by simp), z0j l _ (z0t l _)]
theorem zho {l : List UInt8} {S : St} {d : UInt8} (h : nowF l (S.1 + 1, 0) = some d) : Wf l (if d = 39 then (S.1 + 2, 0) else wordF l [39] (S.1 + 2, 0)) /\ S.1 + 2 <= (if d = 39 then ((S.1 + 2, 0) : St) else wordF l [39] (S.1 + 2, 0)).1 := by
 have hw : Wf l (S.1 + 2, 0) := z0u h
 by_cases h39 : d = 39
 ·rw [if_pos h39]; exact ⟨hw, Nat.le_refl _⟩
 ·rw [if_neg h39]; exact ⟨(z06 l [39] _).2.1 hw, (z06 l [39] (S.1 + 2, 0)).1⟩
theorem z6d {l : List UInt8} (o : Nat) (h : Bool) (acc : List Pt) : ∀ (g : Nat) (t : List UInt8) (S : St) (f : Nat), Wf l S -> (S.2 = 0 -> l.length - S.1 < f) -> (S.2 = 0 -> l.length - S.1 <= g) ->
  Wf l (textL l g t S).2 /\ S.1 <= (textL l g t S).2.1 /\ (((textL l g t S).2.2 ≠ 0 /\ (z05 l f o h (acc ++ [tx t]) S).2 = (textL l g t S).2) ∨
   ((textL l g t S).2.2 = 0 /\ Stop l (textL l g t S).2 /\ ∃ f', l.length - (textL l g t S).2.1 < f' /\ z05 l f o h (acc ++ [tx t]) S = z05 l f' o h (acc ++ [tx (textL l g t S).1]) (textL l g t S).2))
 | g, t, S, f, hS, hf, hg => by
  cases hn : nowF l S with
  | none =>
   rw [z52 hn];refine ⟨hS, Nat.le_refl _, ?_⟩
   by_cases h0 : S.2 = 0
   ·refine .inr ⟨h0, fun _ c hc => ?_, f, hf h0, rfl⟩
    rw [z2w h0 hc] at hn; cases hn
   ·exact .inl ⟨h0, by rw [z47 h0]⟩
  | some c =>
   obtain ⟨h0, hx⟩ := z0b hn;have i := z0z hx;have h1 := hf h0;have h2 := hg h0;obtain ⟨g', rfl⟩ : ∃ g', g = g' + 1 := ⟨g - 1, by omega⟩;obtain ⟨f', rfl⟩ : ∃ f', f = f' + 1 := ⟨f - 1, by omega⟩;rw [z9y hn]
   by_cases hc : c = 123 ∨ c = 125 ∨ c = 35
   ·rw [if_pos hc]
    refine ⟨hS, Nat.le_refl _, .inr ⟨h0, fun _ d hd => ?_, f' + 1, h1, rfl⟩⟩
    rw [hx] at hd; obtain rfl := Option.some.inj hd; exact hc
   ·rw [if_neg hc]
    have n1 : c ≠ 123 := fun e => hc (.inl e)
    have n2 : c ≠ 125 := fun e => hc (.inr (.inl e))
    have n3 : c ≠ 35 := fun e => hc (.inr (.inr e))
    have hD : z05 l (f' + 1) o h (acc ++ [tx t]) S = if c = 39 then
      (match nowF l (S.1 + 1, 0) with
      | some d => if isSp d then z05 l f' o h (acc ++ [tx (t ++ [d])]) (if d = 39 then (S.1 + 2, 0) else wordF l [39] (S.1 + 2, 0)) else (acc ++ [tx t], failF l (S.1 + 1, 0))
      | none => (acc ++ [tx t], failF l (S.1 + 1, 0)))
     else z05 l f' o h (acc ++ [tx (t ++ [c])]) (S.1 + 1, 0) := by
     rw [z05, hn];simp only;rw [if_neg (fun e => n2 e.1), if_neg (fun e => by rcases e with e | e; exact n2 e; exact n3 e.1), if_neg n1, if_neg n3, add_tx]
     by_cases hq : c = 39
     ·rw [if_pos hq, if_pos hq]
      cases nowF l (S.1 + 1, 0) with
      | none => rfl
      | some d => simp only; rw [add_tx]
     ·rw [if_neg hq, if_neg hq]
    rw [hD]
    by_cases hq : c = 39
    ·subst hq
     rw [if_pos rfl, if_pos rfl, zgg hn]
     cases hd : nowF l (S.1 + 1, 0) with
     | none =>
      simp only;have a := z0t l (S.1 + 1, 0);have hw : Wf l (failF l (S.1 + 1, 0)) := (z1u l _).2.1 (z0u hn);have := z6d o h acc g' (t ++ []) (failF l (S.1 + 1, 0)) f' hw (fun e => absurd e a) (fun e => absurd e a);have ht : textL l g' (t ++ []) (failF l (S.1 + 1, 0)) = (t ++ [], failF l (S.1 + 1, 0)) := z52 (z12 a);rw [ht];exact ⟨hw, by rw [z26]; exact Nat.le_succ _, .inl ⟨a, rfl⟩⟩
     | some d =>
      simp only
      by_cases hsp : isSp d
      ·rw [if_pos hsp, if_pos hsp]
       simp only;obtain ⟨hw, j⟩ := zho hd;have b := z0z (z0b hd).2;have k := hw.1;simp only at b;obtain ⟨i1, i2, i3⟩ := z6d o h acc g' (t ++ [d]) _ f' hw (fun _ => by omega) (fun _ => by omega);exact ⟨i1, by omega, i3⟩
      ·rw [if_neg hsp, if_neg hsp]
       simp only;have a := z0t l (S.1 + 1, 0);have hw : Wf l (failF l (S.1 + 1, 0)) := (z1u l _).2.1 (z0u hn);have ht : textL l g' (t ++ []) (failF l (S.1 + 1, 0)) = (t ++ [], failF l (S.1 + 1, 0)) := z52 (z12 a);rw [ht];exact ⟨hw, by rw [z26]; exact Nat.le_succ _, .inl ⟨a, rfl⟩⟩
    ·rw [if_neg hq, if_neg hq]
     obtain ⟨i1, i2, i3⟩ := z6d o h acc g' (t ++ [c]) (S.1 + 1, 0) f' (z0u hn) (fun _ => by simp only; omega) (fun _ => by simp only; omega);exact ⟨i1, by simp only at i2; omega, i3⟩
 termination_by g => g

def endO (l : List UInt8) (o : Nat) (T : St) : St := if o = 0 then endF l T else T
theorem z45 {l : List UInt8} {o : Nat} {T : St} (h : T.2 ≠ 0) : endO l o T = T := by
 unfold endO endF
 split
 ·split
  ·exact z1i h
  ·rfl
 ·rfl
def clean (l : List UInt8) (acc : List Pt) (S : St) : Prop := (∀ x, acc.getLast? = some x -> x.k ≠ 1) ∨ Stop l S
theorem zd1 (l : List UInt8) (S : St) : wordF l [] S = S := by rw [wordF]
theorem z3c {l : List UInt8} {S : St} {c : UInt8} (h : nowF l S = some c) : wordF l [c] S = (S.1 + 1, 0) := by rw [z5k h, zd1]
theorem zhc {l : List UInt8} {S : St} (h : S.2 ≠ 0) : dKey l S = ([], S) := by
 unfold dKey dName
 rw [z12 h, if_neg (by simp)]
 have hn : isNow l isLet S = false := by unfold isNow; rw [z12 h]
 rw [hn];simp only [Bool.false_eq_true, if_false];rw [z1i h, z55 h]
theorem zal {l : List UInt8} {S : St} (h : nowF l S ≠ some 44) : nextF l [44, 32, 115] S = false := by
 cases hn : nextF l [44, 32, 115] S with
 | false => rfl
 | true => exact absurd (z1t.1 (next_in hn)) h
theorem zcb {l : List UInt8} {S : St} (h : nextF l [44, 32, 115] S = true) : nowF l (wordF l [44, 32] S) = some 115 := by
 unfold nextF at h
 simp only [Bool.and_eq_true, decide_eq_true_eq] at h;obtain ⟨h0, hp⟩ := h;obtain ⟨r, hr⟩ := List.isPrefixOf_iff_prefix.1 hp
 have e0 : l[S.1]? = some 44 := by
  have : (l.drop S.1)[0]? = some 44 := by rw [<- hr]; rfl
  simpa using this
 have e1 : l[S.1 + 1]? = some 32 := by
  have : (l.drop S.1)[1]? = some 32 := by rw [<- hr]; rfl
  simpa using this
 have e2 : l[S.1 + 1 + 1]? = some 115 := by
  have : (l.drop S.1)[2]? = some 115 := by rw [<- hr]; rfl
  rw [List.getElem?_drop] at this;exact this
 rw [z5k (z2w h0 e0), z5k (z2w (S := (S.1 + 1, 0)) rfl e1), zd1];exact z2w rfl e2
theorem zfc {l : List UInt8} {S : St} (h : nowF l (wordF l [44, 32] S) = some 115) : nextF l [44, 32, 115] S = true := by
 obtain ⟨h0, h1⟩ := z0b h;have hl : S.2 = 0 := (z06 l [44, 32] S).live h0;refine zak hl ?_;have : wordF l [44, 32, 115] S = wordF l [115] (wordF l [44, 32] S) := z69 l [44, 32] [115] S;rw [this, z3c h]
theorem hole_doc {l : List UInt8} {h : Bool} {S : St} (hn : nowF l S = some 123) {cd : Bool -> St -> List Cs × St} {cp : Bool -> List UInt8 × St -> List Cs × St}
  (hs : ∀ h T, T.2 ≠ 0 -> (cd h T).2 = T) (hc : ∀ h T, Wf l T -> (T.2 = 0 -> S.1 + 1 <= T.1) -> (cd h T).2 = (cp h (oneF l [32] T)).2 /\ ((cd h T).2.2 = 0 -> (cd h T).1 = (cp h (oneF l [32] T)).1)) :
  (z1g l cd h S).2 = (holeG l cp h S).2 /\ ((z1g l cd h S).2.2 = 0 -> (z1g l cd h S).1 = (holeG l cp h S).1) := by
 have hg := zdo l (S.1 + 1, 0);have n : Wf l (S.1 + 1, 0) := z0u hn;have g := z3b l nameB (S.1 + 1, 0)
 unfold z1g holeG
 simp only;rw [z3c hn]
 generalize dName l (S.1 + 1, 0) = D at *
 generalize longF l nameB (S.1 + 1, 0) = P at *
 rcases hg with ⟨g1, g2⟩ | ⟨g1, g2, d, g3, g4⟩
 ·have i : Wf l P.2 := g.2.1 n
  have j := g.1;simp only at j;obtain ⟨d1, D2⟩ := D;obtain ⟨p1, N⟩ := P;simp only at g1 g2 i j ⊢;subst g1
  by_cases h125 : nowF l D2 = some 125
  ·rw [if_pos h125, zal (by rw [h125]; simp), z2j (by rw [h125]; simp)]
   simp only [Bool.false_eq_true, if_false];rw [z3c h125, g2 (z0b h125).1];exact ⟨rfl, fun _ => rfl⟩
  ·rw [if_neg h125]
   have hA : Wf l (wordF l [44, 32] D2) := (z06 l [44, 32] D2).2.1 i;have q := (z06 l [44, 32] D2).1
   by_cases h3 : nowF l (wordF l [44, 32] D2) = some 115
   ·rw [if_pos h3, zfc h3]
    simp only [if_true];have b : wordF l seW D2 = wordF l seT (wordF l [44, 32] D2) := z69 l [44, 32] seT D2;have c := z06 l seT (wordF l [44, 32] D2);obtain ⟨k1, k2⟩ := hc h (wordF l seT (wordF l [44, 32] D2)) (c.2.1 hA) (fun _ => by have := c.1; omega);rw [b];refine ⟨k1, fun hl => ?_⟩;have f := k2 hl;have o : (wordF l [44, 32] D2).2 = 0 := (z0b h3).1;rw [f, g2 ((z06 l [44, 32] D2).live o)]
   ·have p : nextF l [44, 32, 115] D2 = false := by
     cases hx : nextF l [44, 32, 115] D2 with
     | false => rfl
     | true => exact absurd (zcb hx) h3
    rw [if_neg h3, p];simp only [Bool.false_eq_true, if_false]
    by_cases h44 : nowF l D2 = some 44
    ·rw [z1t.2 h44]
     simp only [if_true];have b : wordF l plW D2 = wordF l plT (wordF l [44, 32] D2) := z69 l [44, 32] plT D2;have c := z06 l plT (wordF l [44, 32] D2);obtain ⟨k1, k2⟩ := hc true (wordF l plT (wordF l [44, 32] D2)) (c.2.1 hA) (fun _ => by have := c.1; omega);rw [b];refine ⟨k1, fun hl => ?_⟩;have f := k2 hl;rw [f, g2 (z0b h44).1]
    ·rw [z2j h44]
     simp only [Bool.false_eq_true, if_false];have a := z0t l D2;rw [z28 h44, z0j l _ a, z28 h125];rw [hs true _ a];exact ⟨rfl, fun e => absurd e a⟩
 ·have a := z0t l P.2
  have hx : nowF l P.2 = some d := z2w g1 g3
  have k : nowF l P.2 ≠ some 44 := fun e => by rw [hx] at e; obtain rfl := Option.some.inj e; exact absurd g4 (by decide)
  have m : nowF l P.2 ≠ some 125 := fun e => by rw [hx] at e; obtain rfl := Option.some.inj e; exact absurd g4 (by decide)
  rw [g2, z12 a, z0j l _ a, z12 a, z0j l _ a, zal k, z2j k, z28 m];simp only [Bool.false_eq_true, if_false, reduceCtorEq];rw [z0j l plT a, hs true _ a];exact ⟨rfl, fun e => absurd e a⟩
theorem parts_on {l : List UInt8} {f : Nat} {h : Bool} {o : Nat} {acc : List Pt} {S : St} {c : UInt8} (hn : nowF l S = some c) (hc : c ≠ 125) :
  z0c l (f + 1) h o acc S = z0c l f h o (acc ++ [(partG l (fun h b => z09 l f h o [] b) h S).1]) (partG l (fun h b => z09 l f h o [] b) h S).2 := by
 rw [z0c, if_pos ⟨(z0b hn).1, z0z (z0b hn).2, z2j (by rw [hn]; intro e; exact hc (Option.some.inj e))⟩]
theorem zag {l : List UInt8} {f : Nat} {h : Bool} {o : Nat} {acc : List Pt} {S : St} (hn : nowF l S = none ∨ nowF l S = some 125) : z0c l f h o acc S = (acc, S) := by
 cases f with
 | zero => rw [z0c]
 | succ f =>
  rw [z0c, if_neg];rintro ⟨h0, h1, h2⟩
  rcases hn with hn | hn
  ·rw [z2w h0 (List.getElem?_eq_getElem h1)] at hn; cases hn
  ·rw [z1t.2 hn] at h2; cases h2
theorem zas (acc : List Pt) (y : Pt) (h : y.k ≠ 1) : ∀ x, (acc ++ [y]).getLast? = some x -> x.k ≠ 1 := fun x hx => by
 rw [List.getLast?_concat] at hx;obtain rfl := Option.some.inj hx;exact h
theorem one_same {l : List UInt8} {E : St} (h : nowF l E ≠ some 125) : oneF l [32, 125] E = oneF l [32] E := by
 by_cases h0 : E.2 = 0
 ·unfold oneF
  rw [if_pos h0, if_pos h0]
  cases hx : l[E.1]? with
  | none => rfl
  | some c =>
   have hc : c ≠ 125 := fun e => h (by rw [z2w h0 hx, e])
   simp [hc]
 ·rw [z3x h0, z3x h0]
theorem hole_k {l : List UInt8} {cp : Bool -> List UInt8 × St -> List Cs × St} {h : Bool} {S : St} : (holeG l cp h S).1.k ≠ 1 := by
 unfold holeG
 simp only
 split
 ·simp [Pt.k]
 ·split <;> simp [Pt.k]
theorem cases_on {l : List UInt8} {f o : Nat} {h : Bool} {acc : List Cs} {S : St} : z09 l (f + 1) h o acc (([32] : List UInt8), S) = z09 l f h o (acc ++ [(z16 l (fun S => z0c l f h (o + 1) [] S) o S).1]) (oneF l [32, 125] (z16 l (fun S => z0c l f h (o + 1) [] S) o S).2) := by
 rw [z09, if_pos rfl]
theorem doc_both (l : List UInt8) : ∀ n,
  (∀ (o : Nat) (h : Bool) (acc : List Pt) (S : St) (g f : Nat), Wf l S -> (o <= 32 ∨ S.2 ≠ 0) -> (S.2 = 0 -> l.length - S.1 <= n /\ l.length - S.1 < g /\ l.length - S.1 < f) -> clean l acc S ->
   (z05 l f o h acc S).2 = endO l o (z0c l g h o acc S).2 /\ ((z05 l f o h acc S).2.2 = 0 -> (z05 l f o h acc S).1 = (z0c l g h o acc S).1)) /\
  (∀ (o : Nat) (h : Bool) (acc : List Cs) (S : St) (g f : Nat), Wf l S -> o <= 32 -> (S.2 = 0 -> l.length - S.1 <= n /\ l.length - S.1 < g /\ l.length - S.1 < f) ->
   (z0e l f o h acc S).2 = (z09 l g h o acc (oneF l [32] S)).2 /\ ((z0e l f o h acc S).2.2 = 0 -> (z0e l f o h acc S).1 = (z09 l g h o acc (oneF l [32] S)).1)) := by
 intro n
 induction n using Nat.strongRecOn with
 | _ n ih =>
 refine ⟨fun o h acc S g f hS ho hb hcl => ?_, fun o h acc S g f hS ho hb => ?_⟩
 ·cases hn : nowF l S with
  | none =>
   rw [zag (.inl hn)]
   have hD : z05 l f o h acc S = (acc, S) := by
    cases f with
    | zero => rw [z05]
    | succ f => rw [z05, hn]
   rw [hD];refine ⟨?_, fun _ => rfl⟩
   by_cases h0 : S.2 = 0
   ·unfold endO endF
    split
    ·rw [if_neg]
     intro p
     rw [z2w h0 (List.getElem?_eq_getElem p)] at hn; cases hn
    ·rfl
   ·exact (z45 h0).symm
  | some c =>
   obtain ⟨h0, hx⟩ := z0b hn;have p := z0z hx;obtain ⟨b1, b2, b3⟩ := hb h0
   have m : o <= 32 := by
    rcases ho with ho | ho
    ·exact ho
    ·exact absurd h0 ho
   obtain ⟨g', rfl⟩ : ∃ g', g = g' + 1 := ⟨g - 1, by omega⟩;obtain ⟨f', rfl⟩ : ∃ f', f = f' + 1 := ⟨f - 1, by omega⟩
   have i : n - 1 < n := by omega
   by_cases h125 : c = 125
   ·subst h125
    rw [zag (.inr hn)]
    by_cases hpos : 0 < o
    ·have hD : z05 l (f' + 1) o h acc S = (acc, S) := by rw [z05, hn]; simp only; rw [if_pos ⟨trivial, hpos⟩]
     rw [hD];exact ⟨by unfold endO; rw [if_neg (by omega)], fun _ => rfl⟩
    ·have hD : z05 l (f' + 1) o h acc S = (acc, failF l S) := by rw [z05, hn]; simp only; rw [if_neg (fun e => hpos e.2), if_pos (.inl trivial)]
     rw [hD];exact ⟨by unfold endO endF; rw [if_pos (by omega), if_pos p], fun e => absurd e (z0t l S)⟩
   rw [parts_on hn h125]
   by_cases h35 : c = 35
   ·subst h35
    have hp : partG l (fun h b => z09 l g' h o [] b) h S = (.mk 3 (ba []) (ba []) [], wordF l [35] (if h then S else failF l S)) := by
     unfold partG; rw [if_neg (by rw [z2j (by rw [hn]; simp)]; simp), if_pos (z1t.2 hn)]
    rw [hp]
    cases h with
    | false =>
     have hD : z05 l (f' + 1) o false acc S = (acc, failF l S) := by rw [z05, hn]; simp only; rw [if_neg (fun e => absurd e.1 (by decide)), if_pos (.inr ⟨trivial, trivial⟩)]
     rw [hD];have a := z0t l S;simp only [Bool.false_eq_true, if_false];rw [z0j l _ a, z2v a];exact ⟨(z45 a).symm, fun e => absurd e a⟩
    | true =>
     have hD : z05 l (f' + 1) o true acc S = z05 l f' o true (acc ++ [.mk 3 (ba []) (ba []) []]) (S.1 + 1, 0) := by
      rw [z05, hn]; simp only
      rw [if_neg (fun e => absurd e.1 (by decide)), if_neg (fun e => by rcases e with e | e; exact absurd e (by decide); cases e.2), if_neg (by decide), if_pos trivial]
     rw [hD];simp only [if_true];rw [z3c hn];exact (ih (n - 1) i).1 o true _ (S.1 + 1, 0) g' f' (z0u hn) (.inl m) (fun _ => by simp only; omega) (.inl (zas _ _ (by simp [Pt.k])))
   by_cases h123 : c = 123
   ·subst h123
    have hp : partG l (fun h b => z09 l g' h o [] b) h S = holeG l (fun h b => z09 l g' h o [] b) h S := by unfold partG; rw [if_pos (z1t.2 hn)]
    have hD : z05 l (f' + 1) o h acc S = z05 l f' o h (acc ++ [(z1g l (fun h S => z0e l f' o h [] S) h S).1]) (z1g l (fun h S => z0e l f' o h [] S) h S).2 := by
     rw [z05, hn]; simp only
     rw [if_neg (fun e => absurd e.1 (by decide)), if_neg (fun e => by rcases e with e | e; exact absurd e (by decide); exact absurd e.1 (by decide)), if_pos trivial]
    have hd := hole_doc (h := h) hn (cd := fun h S => z0e l f' o h [] S) (cp := fun h b => z09 l g' h o [] b) (fun h T hT => by rw [z2b hT])
     (fun h T hT j => (ih (n - 1) i).2 o h [] T g' f' hT m (fun e => by have := j e; omega))
    have j := zhr (l := l) (cf := fun h b => z09 l g' h o [] b) (fun h b => z3m _ _ _ _ _ _) h S;have q := z8x (l := l) (cf := fun h b => z09 l g' h o [] b) (fun h b => z3m _ _ _ _ _ _) (h := h) h0 p (z2j (by rw [hn]; simp));have hk := hole_k (l := l) (cp := fun h b => z09 l g' h o [] b) (h := h) (S := S);rw [hp] at q ⊢;rw [hD];have C := j.2.1 hS
    generalize z1g l (fun h S => z0e l f' o h [] S) h S = rd at *
    generalize holeG l (fun h b => z09 l g' h o [] b) h S = rp at *
    obtain ⟨xd, Td⟩ := rd;obtain ⟨xp, T⟩ := rp;simp only at hd q C hk ⊢;obtain ⟨e1, e2⟩ := hd;subst e1
    by_cases hl : Td.2 = 0
    ·rw [e2 hl]
     have hT := q.resolve_left (fun e => e hl);exact (ih (n - 1) i).1 o h _ Td g' f' C (.inl m) (fun _ => by omega) (.inl (zas _ _ hk))
    ·rw [z47 hl, z2v hl]
     exact ⟨(z45 hl).symm, fun e => absurd e hl⟩
   have hp : partG l (fun h b => z09 l g' h o [] b) h S = (.mk 1 (ba (textL l l.length [] S).1) (ba []) [], (textL l l.length [] S).2) := by
    unfold partG
    rw [if_neg (by rw [z2j (by rw [hn]; intro e; exact h123 (Option.some.inj e))]; simp), if_neg (by rw [z2j (by rw [hn]; intro e; exact h35 (Option.some.inj e))]; simp)]
   rw [hp]
   have s : ∀ x, acc.getLast? = some x -> x.k ≠ 1 := by
    rcases hcl with hcl | hcl
    ·exact hcl
    ·rcases hcl h0 c hx with e | e | e
     ·exact absurd e h123
     ·exact absurd e h125
     ·exact absurd e h35
   have hD : z05 l (f' + 1) o h acc S = if c = 39 then
     (match nowF l (S.1 + 1, 0) with
     | some d => if isSp d then z05 l f' o h (acc ++ [tx [d]]) (if d = 39 then (S.1 + 2, 0) else wordF l [39] (S.1 + 2, 0)) else (acc, failF l (S.1 + 1, 0))
     | none => (acc, failF l (S.1 + 1, 0)))
    else z05 l f' o h (acc ++ [tx [c]]) (S.1 + 1, 0) := by
    rw [z05, hn];simp only;rw [if_neg (fun e => h125 e.1), if_neg (fun e => by rcases e with e | e; exact h125 e; exact h35 e.1), if_neg h123, if_neg h35, zcz s]
    by_cases hq : c = 39
    ·rw [if_pos hq, if_pos hq]
     cases nowF l (S.1 + 1, 0) with
     | none => rfl
     | some d => simp only; rw [zcz s]
    ·rw [if_neg hq, if_neg hq]
   obtain ⟨L', I⟩ : ∃ L', l.length = L' + 1 := ⟨l.length - 1, by omega⟩
   have hT : textL l l.length [] S = if c = 39 then textL l L' ([] ++ (quotF l S).1) (quotF l S).2 else textL l L' ([] ++ [c]) (S.1 + 1, 0) := by
    rw [I, z9y hn, if_neg (fun e => by rcases e with e | e | e; exact h123 e; exact h125 e; exact h35 e)]
   rw [hD, hT];clear hD hT hp
   have u : ∀ (t : List UInt8) (Q : St), Wf l Q -> S.1 + 1 <= Q.1 ->
     (z05 l f' o h (acc ++ [tx t]) Q).2 = endO l o (z0c l g' h o (acc ++ [.mk 1 (ba (textL l L' t Q).1) (ba []) []]) (textL l L' t Q).2).2 /\
     ((z05 l f' o h (acc ++ [tx t]) Q).2.2 = 0 -> (z05 l f' o h (acc ++ [tx t]) Q).1 = (z0c l g' h o (acc ++ [.mk 1 (ba (textL l L' t Q).1) (ba []) []]) (textL l L' t Q).2).1) := by
    intro t Q hQ j;have af := hQ.1;obtain ⟨r1, r2, r3⟩ := z6d o h acc L' t Q f' hQ (fun _ => by omega) (fun _ => by omega)
    rcases r3 with ⟨r3, r4⟩ | ⟨r3, r4, f2, r5, r6⟩
    ·rw [z2v r3, r4]
     exact ⟨(z45 r3).symm, fun e => absurd e r3⟩
    ·rw [r6]
     exact (ih (n - 1) i).1 o h _ _ g' f2 r1 (.inl m) (fun _ => by omega) (.inr r4)
   by_cases hq : c = 39
   ·subst hq
    rw [if_pos rfl, if_pos rfl, zgg hn];have a := z0t l (S.1 + 1, 0)
    have y : (failF l (S.1 + 1, 0)) = endO l o (z0c l g' h o (acc ++ [.mk 1 (ba (textL l L' ([] ++ []) (failF l (S.1 + 1, 0))).1) (ba []) []]) (textL l L' ([] ++ []) (failF l (S.1 + 1, 0))).2).2 := by
     rw [z52 (z12 a), z2v a]; exact (z45 a).symm
    cases hd : nowF l (S.1 + 1, 0) with
    | none =>
     simp only;exact ⟨y, fun e => absurd e a⟩
    | some d =>
     simp only
     by_cases hsp : isSp d
     ·rw [if_pos hsp, if_pos hsp]
      obtain ⟨hw, j⟩ := zho hd;exact u [d] _ hw (by omega)
     ·rw [if_neg hsp, if_neg hsp]
      exact ⟨y, fun e => absurd e a⟩
   ·rw [if_neg hq, if_neg hq]
    exact u [c] (S.1 + 1, 0) (z0u hn) (Nat.le_refl _)
 ·by_cases h0 : S.2 = 0
  ·obtain ⟨b1, b2, b3⟩ := hb h0
   obtain ⟨g', rfl⟩ : ∃ g', g = g' + 1 := ⟨g - 1, by omega⟩;obtain ⟨f', rfl⟩ : ∃ f', f = f' + 1 := ⟨f - 1, by omega⟩
   by_cases hsp : nowF l S = some 32
   ·have p := z0z (z0b hsp).2
    have i : n - 1 < n := by omega
    rw [zgs (z1t.2 hsp), z0e, if_pos h0, cases_on];simp only;rw [z3c hsp];have D := key_doc l (S.1 + 1, 0);have F := (zav l (S.1 + 1, 0)).trans (z06 l [32] _);have J := D.word (c := 32) (r := []) (by decide);have L : Wf l (wordF l [32] (keyF l (S.1 + 1, 0)).2) := F.2.1 (z0u hsp);have M := F.1
    have G : (wordF l [32] (keyF l (S.1 + 1, 0)).2).2 = 0 -> (dKey l (S.1 + 1, 0)).1 = (keyF l (S.1 + 1, 0)).1 := fun e => (D.val e (by decide)).1
    unfold z16
    simp only;rw [J]
    generalize wordF l [32] (keyF l (S.1 + 1, 0)).2 = R at *
    generalize (keyF l (S.1 + 1, 0)).1 = kp at *
    generalize (dKey l (S.1 + 1, 0)).1 = kd at *
    simp only at M
    by_cases hdeep : nowF l R = some 123 /\ 32 <= o
    ·rw [if_pos hdeep]
     have hX : deepF l o R = (R.1, 12) := by unfold deepF; rw [if_pos ⟨z1t.2 hdeep.1, by omega⟩]
     have a : ((R.1, 12) : St).2 ≠ 0 := by simp
     rw [hX, z0j l _ a, z2v a];simp only;rw [z0j l _ a, z3x a, z48 (by simp)];exact ⟨rfl, fun e => absurd e a⟩
    ·rw [if_neg hdeep]
     have hX : deepF l o R = R := by
      unfold deepF; rw [if_neg]; rintro ⟨e1, e2⟩; exact hdeep ⟨z1t.1 e1, by omega⟩
     rw [hX];have z := z06 l [123] R
     have N : o + 1 <= 32 ∨ (wordF l [123] R).2 ≠ 0 := by
      by_cases hn : nowF l R = some 123
      ·left; rcases Nat.lt_or_ge o 32 with p | j
       ·omega
       ·exact absurd ⟨hn, j⟩ hdeep
      ·right; rw [z28 hn]; exact z0t l R
     have A : (wordF l [123] R).2 = 0 -> R.1 + 1 <= (wordF l [123] R).1 := z4b;have O : (wordF l [123] R).2 = 0 -> R.2 = 0 := z.live;have H := z.2.1 L;have Y := z.1
     generalize wordF l [123] R = W at *
     have hi := (ih (n - 1) i).1 (o + 1) h [] W g' f' H N (fun e => by have := A e; omega) (.inl (fun x hx => by cases hx))
     have U : ∀ T, endO l (o + 1) T = T := fun T => by unfold endO; rw [if_neg (by omega)]
     rw [U] at hi;have w := z2l l g' h (o + 1) [] W
     generalize z05 l f' (o + 1) h [] W = rd at *
     generalize z0c l g' h (o + 1) [] W = rp at *
     obtain ⟨xd, Vd⟩ := rd;obtain ⟨xp, V⟩ := rp;simp only at hi w ⊢;obtain ⟨e1, e2⟩ := hi;subst e1;have B := z06 l [125] Vd;have X := B.2.1 (w.2.1 H);have Z := B.1;have aa := w.1
     have v : (wordF l [125] Vd).2 = 0 -> (Cs.mk (ba kd) xd) = .mk (ba kp) xp := fun e => by
      have hV := B.live e;rw [e2 hV, G (O (w.live hV))]
     generalize wordF l [125] Vd = E at *
     by_cases hE : nowF l E = some 125
     ·rw [if_pos hE]
      have ho : oneF l [32, 125] E = ([125], (E.1 + 1, 0)) := by
       obtain ⟨q0, q1⟩ := z0b hE
       unfold oneF; rw [if_pos q0, q1]; simp
      rw [ho, z48 (by simp)];exact ⟨rfl, fun _ => by simp only; rw [v (z0b hE).1]⟩
     ·rw [if_neg hE, one_same hE]
      by_cases hEl : E.2 = 0
      ·rw [v hEl]
       exact (ih (n - 1) i).2 o h _ E g' f' X ho (fun _ => by omega)
      ·rw [z2b hEl, z3x hEl, z48 (by simp)]
       exact ⟨rfl, fun e => absurd e hEl⟩
   ·have a := z0t l S
    have ho : oneF l [32] S = ([], failF l S) := by
     unfold oneF
     rw [if_pos h0]
     cases hx : l[S.1]? with
     | none => rfl
     | some d =>
      simp only;rw [if_neg];intro hd
      obtain rfl : d = 32 := by simpa using hd
      exact hsp (z2w h0 hx)
    rw [ho, z48 (by simp), z0e, if_pos h0];simp only;rw [z28 hsp, zhc a];simp only;rw [z0j l _ a, z12 a, if_neg (by simp), z0j l _ a, z47 a];simp only;rw [z0j l _ a, z12 a, if_neg (by simp), z2b a];exact ⟨rfl, fun e => absurd e a⟩
  ·rw [z3x h0, z48 (by simp), z2b h0]
   exact ⟨rfl, fun e => absurd e h0⟩
def z1c (l : List UInt8) : List Pt × St := z05 l (l.length + 1) 0 false [] (0, 0)
def z2y (l : List UInt8) : List Pt × Nat × Nat :=
 if 2000 < l.length then ([], 2, 0)
 else if (z1c l).2.2 ≠ 0 then ([], (z1c l).2.2, (z1c l).2.1)
 else if z13 (z1c l).1 ≠ 0 then ([], z13 (z1c l).1, 0)
 else ((z1c l).1, 0, 0)
theorem zen (l : List UInt8) : (z1c l).2 = endF l (readF l).2 /\ ((z1c l).2.2 = 0 -> (z1c l).1 = (readF l).1) := by
 have := (doc_both l l.length).1 0 false [] (0, 0) (l.length + 1) (l.length + 1) ⟨Nat.zero_le _, .inl rfl⟩ (.inl (by omega)) (fun _ => by simp only; omega) (.inl (fun x hx => by cases hx))
 unfold endO at this
 rw [if_pos rfl] at this;exact this
theorem zio (l : List UInt8) : z2y l = z0q l := by
 obtain ⟨h1, h2⟩ := zen l
 unfold z2y z0q
 rw [<- h1]
 split
 ·rfl
 ·split
  ·rfl
  ·rename_i h
   have h0 : (z1c l).2.2 = 0 := by simpa using h
   rw [h2 h0]

theorem z2c {l : List UInt8} {S : St} {c : UInt8} (h : nowF l S = some c) : Ge l S (S.1 + 1, 0) := ⟨Nat.le_succ _, fun _ => z0u h, fun e => absurd (z0b h).1 e⟩
theorem ze5 (l : List UInt8) (w : UInt8 -> Bool) (p : List UInt8 -> Bool) : ∀ (f : Nat) (acc : List UInt8) (S : St), Ge l S (runL l w p f acc S).2
 | 0, acc, S => by rw [runL]; exact Ge.refl _ _
 | f + 1, acc, S => by
  rw [runL]
  cases hn : nowF l S with
  | none => exact Ge.refl _ _
  | some c =>
   simp only
   split
   ·split
    ·exact (z2c hn).trans (ze5 l w p f _ _)
    ·exact z1u l S
   ·exact Ge.refl _ _
theorem z9b (l : List UInt8) (S : St) : Ge l S (dName l S).2 := by
 unfold dName
 split
 ·exact ze5 _ _ _ _ _ _
 ·exact (z1u l S).trans (ze5 _ _ _ _ _ _)
theorem zhu (l : List UInt8) (S : St) : Ge l S (dKey l S).2 := by
 unfold dKey
 split
 ·rename_i h
  split
  ·exact (z2c h).trans (ze5 _ _ _ _ _ _)
  ·exact (z2c h).trans (z1u _ _)
 ·exact z9b l S
theorem ge_over {l : List UInt8} {R : St} (h : nowF l R = some 123) : Ge l R (R.1, 12) := ⟨Nat.le_refl _, fun _ => ⟨Nat.le_of_lt (z0z (z0b h).2), .inr (.inr ⟨.inr rfl, z0z (z0b h).2⟩)⟩, fun e => absurd (z0b h).1 e⟩
theorem ze6 {l : List UInt8} {cf : Bool -> St -> List Cs × St} (hc : ∀ h S, Ge l S (cf h S).2) (h : Bool) (S : St) : Ge l (S.1 + 1, 0) (z1g l cf h S).2 := by
 have hn := z9b l (S.1 + 1, 0)
 unfold z1g
 simp only
 split
 ·rename_i h1
  exact hn.trans (z2c h1)
 ·split
  ·exact hn.trans ((z06 l _ _).trans ((z06 l _ _).trans (hc _ _)))
  ·exact hn.trans ((z06 l _ _).trans ((z06 l _ _).trans (hc _ _)))
theorem z9c (l : List UInt8) : ∀ f, (∀ o h acc S, Ge l S (z05 l f o h acc S).2) /\ (∀ o h acc S, Ge l S (z0e l f o h acc S).2)
 | 0 => ⟨fun o h acc S => by rw [z05]; exact Ge.refl _ _, fun o h acc S => by rw [z0e]; exact Ge.refl _ _⟩
 | f + 1 => by
  obtain ⟨i1, i2⟩ := z9c l f;refine ⟨fun o h acc S => ?_, fun o h acc S => ?_⟩
  ·rw [z05]
   cases hn : nowF l S with
   | none => exact Ge.refl _ _
   | some c =>
    simp only
    split
    ·exact Ge.refl _ _
    ·split
     ·exact z1u l S
     ·split
      ·exact (z2c hn).trans ((ze6 (fun h S => i2 o h [] S) h S).trans (i1 _ _ _ _))
      ·split
       ·exact (z2c hn).trans (i1 _ _ _ _)
       ·split
        ·cases hd : nowF l (S.1 + 1, 0) with
         | none => exact (z2c hn).trans (z1u _ _)
         | some d =>
          simp only
          split
          ·refine (z2c hn).trans (Ge.trans (z2c hd) (Ge.trans ?_ (i1 _ _ _ _)))
           split
           ·exact Ge.refl _ _
           ·exact z06 l [39] _
          ·exact (z2c hn).trans (z1u _ _)
        ·exact (z2c hn).trans (i1 _ _ _ _)
  ·rw [z0e]
   split
   ·simp only
    have hk := (z06 l [32] S).trans (zhu l (wordF l [32] S));have hr := hk.trans (z06 l [32] (dKey l (wordF l [32] S)).2)
    split
    ·rename_i h1
     exact hr.trans (ge_over h1.1)
    ·have hp := hr.trans ((z06 l [123] _).trans ((i1 (o + 1) h [] (wordF l [123] (wordF l [32] (dKey l (wordF l [32] S)).2))).trans (z06 l [125] _)))
     split
     ·rename_i h1
      exact hp.trans (z2c h1)
     ·exact hp.trans (i2 _ _ _ _)
   ·exact Ge.refl _ _
theorem zht (l : List UInt8) (f o : Nat) (h : Bool) (acc : List Pt) (S : St) : Ge l S (z05 l f o h acc S).2 := (z9c l f).1 o h acc S
theorem zhv (l : List UInt8) (f o : Nat) (h : Bool) (acc : List Cs) (S : St) : Ge l S (z0e l f o h acc S).2 := (z9c l f).2 o h acc S
end Go.Proofs.YtdkkkeoicekdgaaGreatDoor

end
