/- What Parse tells, and where. -/
import Derived.Test.YtdkkkeoicekdgaaGreatDoorChecked
import Derived.Deep.MidRow
import Derived.Lib.UnsafeStr
import Derived.Below
import Derived.Deep.Draws
import Derived.WalkSpells
import Derived.Lib.Hide
import Derived.Lib.LaidTab
import Derived.Lib.AppendIntMem
import Derived.Laws.OwnMore
import Derived.Deep.AppendLies
import Derived.Test.YtdkkkeoicekdgaaGreatDoorZBg12

section

namespace Go.Proofs.YtdkkkeoicekdgaaGreatDoor
theorem z8g (l : List UInt8) : Wf l (readF l).2 := (z2p l (l.length + 1) false 0 [] (0, 0)).2.1 ⟨Nat.zero_le _, .inl rfl⟩
theorem end_live {l : List UInt8} (h : (endF l (readF l).2).2 = 0) : (readF l).2.2 = 0 /\ (readF l).2.1 = l.length := by
 have hw := (z8g l).1
 unfold endF at h
 split at h
 ·exact absurd h (z33 l _)
 ·exact ⟨h, by omega⟩
end Go.Proofs.YtdkkkeoicekdgaaGreatDoor

end

section

namespace Go.Proofs.YtdkkkeoicekdgaaGreatDoor
def subs : List Pt -> Nat
 | [] => 0
 | x :: r => cntCs x.cs + subs r
theorem z8w (x : Pt) : cntP x = 1 + cntCs x.cs := by cases x; rw [cntP]; rfl
theorem zd9 (x : Cs) : cntC x = cntPs x.kids := by cases x; rw [cntC]; rfl
theorem dpP_eq (x : Pt) : dpP x = dpCs x.cs := by cases x; rw [dpP]; rfl
theorem dpC_eq (x : Cs) : dpC x = dpPs x.kids + 1 := by cases x; rw [dpC]; rfl
theorem z25 : ∀ xs : List Pt, cntPs xs = xs.length + subs xs
 | [] => by rw [cntPs, subs]; rfl
 | x :: r => by rw [cntPs, z8w, subs, z25 r, List.length_cons]; omega
theorem z4q : ∀ (xs : List Pt) (x : Pt), subs (xs ++ [x]) = subs xs + cntCs x.cs
 | [], x => by simp [subs]
 | y :: r, x => by show subs (y :: (r ++ [x])) = _; rw [subs, subs, z4q r x]; omega
theorem z3z : ∀ (xs : List Cs) (x : Cs), cntCs (xs ++ [x]) = cntCs xs + cntC x
 | [], x => by simp [cntCs]
 | y :: r, x => by show cntCs (y :: (r ++ [x])) = _; rw [cntCs, cntCs, z3z r x]; omega
theorem take_one {α : Type} {xs : List α} {k : Nat} {x : α} (h : xs[k]? = some x) : xs.take (k + 1) = xs.take k ++ [x] := by
 obtain ⟨hlt, hx⟩ := List.getElem?_eq_some_iff.1 h
 rw [List.take_succ_eq_append_getElem hlt, hx]
theorem za2 {α : Type} {xs : List α} {k : Nat} {x : α} (h : xs[k]? = some x) : xs.drop k = x :: xs.drop (k + 1) := by
 obtain ⟨hlt, hx⟩ := List.getElem?_eq_some_iff.1 h
 rw [List.drop_eq_getElem_cons hlt, hx]
theorem z6u {xs : List Pt} {k : Nat} {x : Pt} (h : xs[k]? = some x) : subs (xs.take (k + 1)) = subs (xs.take k) + cntCs x.cs := by rw [take_one h, z4q]
theorem z5v {xs : List Cs} {k : Nat} {x : Cs} (h : xs[k]? = some x) : cntCs (xs.take (k + 1)) = cntCs (xs.take k) + cntPs x.kids := by rw [take_one h, z3z, zd9]
theorem zd2 {xs : List Pt} {k : Nat} {x : Pt} (h : xs[k]? = some x) : dpPs (xs.take (k + 1)) = max (dpPs (xs.take k)) (dpCs x.cs) := by rw [take_one h, zd1, dpP_eq]
theorem zd3 {xs : List Cs} {k : Nat} {x : Cs} (h : xs[k]? = some x) : dpCs (xs.take (k + 1)) = max (dpCs (xs.take k)) (dpPs x.kids + 1) := by rw [take_one h, za3, dpC_eq]
theorem zbc : ∀ (xs : List Pt) (k : Nat), subs (xs.take k) <= subs xs
 | [], k => by simp
 | _ :: _, 0 => by simp [subs]
 | x :: r, k + 1 => by rw [List.take_succ_cons, subs, subs]; have := zbc r k; omega
theorem za6 : ∀ (xs : List Cs) (k : Nat), cntCs (xs.take k) <= cntCs xs
 | [], k => by simp
 | _ :: _, 0 => by simp [cntCs]
 | x :: r, k + 1 => by rw [List.take_succ_cons, cntCs, cntCs]; have := za6 r k; omega
theorem subs_at {xs : List Pt} {k : Nat} {x : Pt} (h : xs[k]? = some x) : subs (xs.take k) + cntCs x.cs <= subs xs := by
 have := zbc xs (k + 1); rw [z6u h] at this; exact this
theorem kids_at {xs : List Cs} {k : Nat} {x : Cs} (h : xs[k]? = some x) : cntCs (xs.take k) + cntPs x.kids <= cntCs xs := by
 have := za6 xs (k + 1); rw [z5v h] at this; exact this
theorem len_cnt (xs : List Pt) : xs.length <= cntPs xs := by rw [z25]; omega
def Vi (c d br N dp C D : Nat) : Prop := c <= C /\ C <= c + N /\ (C <= 1000 -> C = c + N /\ D = max d (br + dp))
theorem Vi.step {c d br N dp C D N' dp' C' D' : Nat} (h : Vi c d br N dp C D) (hC : C <= 1000) (k : Vi C D (br + 1) N' dp' C' D') : Vi c d br (N + N') (max dp (dp' + 1)) C' D' := by
 obtain ⟨h1, h2, h3⟩ := h
 obtain ⟨k1, k2, k3⟩ := k
 obtain ⟨h4, h5⟩ := h3 hC
 refine ⟨by omega, by omega, fun hC' => ?_⟩
 obtain ⟨k4, k5⟩ := k3 hC'
 exact ⟨by omega, by omega⟩
theorem Vi.over {c d br N dp C D N' dp' : Nat} (h : Vi c d br N dp C D) (hC : 1000 < C) (hN : N <= N') : Vi c d br N' dp' C D := by
 obtain ⟨h1, h2, h3⟩ := h
 exact ⟨h1, by omega, fun h => by omega⟩
theorem zax (xs : List Pt) (x : Pt) : cntPs (xs ++ [x]) = cntPs xs + cntP x := by
 rw [z25, z25, z4q, z8w, List.length_append, List.length_singleton]; omega
theorem za5 (l : List UInt8) : ∀ f, (∀ h o acc S, (z0c l f h o acc S).2.2 = 0 -> cntPs (z0c l f h o acc S).1 + S.1 <= cntPs acc + (z0c l f h o acc S).2.1) /\ (∀ h o acc b, (z0b l f h o acc b).2.2 = 0 -> cntCs (z0b l f h o acc b).1 + b.2.1 <= cntCs acc + (z0b l f h o acc b).2.1)
 | 0 => ⟨fun h o acc S _ => by rw [z0c]; exact Nat.le_refl _, fun h o acc b _ => by rw [z0b]; exact Nat.le_refl _⟩
 | f + 1 => by
  obtain ⟨ih1, ih2⟩ := za5 l f
  refine ⟨fun h o acc S h3 => ?_, fun h o acc b h3 => ?_⟩
  ·rw [z0c] at h3 ⊢
   split
   ·rename_i hc
    rw [if_pos hc] at h3
    have hl := (z2p l f h o _ _).live h3
    have e1 := ih1 _ _ _ _ h3
    rw [zax] at e1
    have e2 : cntP (partG l (fun h b => z0b l f h o [] b) h S).1 + S.1 <= (partG l (fun h b => z0b l f h o [] b) h S).2.1 := by
     have hadv := z9i (cf := fun h b => z0b l f h o [] b) (fun h b => z4i l f h o [] b) (h := h) hc.1 hc.2.1 hc.2.2
     rw [z8w]
     unfold partG at hl hadv ⊢
     split at hl
     ·rename_i hn
      rw [if_pos hn] at hadv ⊢
      have hw : S.1 + 1 <= (wordF l [123] S).1 := by rw [z2n hn]; exact (z07 l [] (S.1 + 1, 0)).1
      have g1 := (z2b l nameB (wordF l [123] S)).1
      unfold holeG at hl hadv ⊢
      simp only at hl hadv ⊢
      split at hl
      ·rename_i hs
       rw [if_pos hs]
       have := ih2 h o [] _ hl
       have g2 := ((z07 l seW (longF l nameB (wordF l [123] S)).2).trans (z0v l [32] _)).1
       simp only [cntCs, Pt.cs] at this ⊢
       omega
      ·rename_i hs
       rw [if_neg hs] at hadv ⊢
       split at hl
       ·rename_i hp
        rw [if_pos hp]
        have := ih2 true o [] _ hl
        have g2 := ((z07 l plW (longF l nameB (wordF l [123] S)).2).trans (z0v l [32] _)).1
        simp only [cntCs, Pt.cs] at this ⊢
        omega
       ·rename_i hp
        rw [if_neg hp] at hadv ⊢
        simp only [cntCs, Pt.cs] at *
        omega
     ·rename_i hn
      rw [if_neg hn] at hadv ⊢
      split at hl
      ·rename_i hn2
       rw [if_pos hn2] at hadv ⊢
       simp only [cntCs, Pt.cs] at *
       omega
      ·rename_i hn2
       rw [if_neg hn2] at hadv ⊢
       simp only [cntCs, Pt.cs] at *
       omega
    omega
   ·exact Nat.le_refl _
  ·rw [z0b] at h3 ⊢
   split
   ·rename_i hc
    rw [if_pos hc] at h3
    have hl0 := (z4i l f h o _ _).live h3
    have hl := (z0v l [32, 125] _).live hl0
    have e1 := ih2 _ _ _ _ h3
    rw [z3z, zd9] at e1
    have g1 := (z0v l [32, 125] (z0y l (fun S => z0c l f h (o + 1) [] S) o b.2).2).1
    have e2 : cntPs (z0y l (fun S => z0c l f h (o + 1) [] S) o b.2).1.kids + b.2.1 <= (z0y l (fun S => z0c l f h (o + 1) [] S) o b.2).2.1 := by
     unfold z0y at hl ⊢
     simp only at hl ⊢
     have hl2 := (z07 l [125] _).live hl
     have := ih1 h (o + 1) [] _ hl2
     have g2 := ((z9v l b.2).trans ((z07 l [32] _).trans ((zcs l o _).trans (z07 l [123] _)))).1
     have g3 := (z07 l [125] (z0c l f h (o + 1) [] (wordF l [123] (deepF l o (wordF l [32] (keyF l b.2).2)))).2).1
     simp only [cntPs, Cs.kids] at this ⊢
     omega
    omega
   ·exact Nat.le_refl _
theorem cnt_read {l : List UInt8} (h : (readF l).2.2 = 0) : cntPs (readF l).1 <= l.length := by
 have h1 := (za5 l (l.length + 1)).1 false 0 [] (0, 0) h
 have h2 := (z8g l).1
 simp only [cntPs] at h1
 unfold readF at h2 ⊢
 omega
end Go.Proofs.YtdkkkeoicekdgaaGreatDoor

end

section

namespace Go.Proofs.YtdkkkeoicekdgaaGreatDoor
open Go.RowKit
theorem z65 {k : IntKind} {a b : Int} (h : a = b) : Ending.returned (.int k a) = .returned (.int k b) := by rw [h]
theorem z03 {a b : Bool} (h : a = b) : Ending.returned (.bool a) = .returned (.bool b) := by rw [h]
def Row (w : World) (b : Nat) (t : TypeId) (cs : List Value) : Prop := w.heap[b]? = some (.cells cs.toArray t (0, 0))
theorem Row.cell {w : World} {b : Nat} {t : TypeId} {cs : List Value} (h : Row w b t cs) {i : Nat} {v : Value} (hi : cs[i]? = some v) : w.cell? ⟨b, i, none⟩ = some v := by
 simp only [World.cell?, Row] at *
 simp [h, hi]
theorem Row.thaw {w : World} {b : Nat} {t : TypeId} {cs : List Value} (h : Row w b t cs) (i : Nat) : w.frozen? ⟨b, i, none⟩ = false := by
 simp only [World.frozen?, Row] at *
 simp [h]
theorem Row.set {w : World} {b : Nat} {t : TypeId} {cs : List Value} (h : Row w b t cs) (i : Nat) (v : Value) : Row (w.setCell ⟨b, i, none⟩ v) b t (cs.set i v) := by
 unfold Row at *
 simp [World.setCell, Array.getElem?_modify, h]
theorem Row.keep {w w' : World} {b : Nat} {t : TypeId} {cs : List Value} (h : Row w b t cs) (hk : w'.heap[b]? = w.heap[b]?) : Row w' b t cs := hk.trans h
theorem Row.lt {w : World} {b : Nat} {t : TypeId} {cs : List Value} (h : Row w b t cs) : b < w.heap.size := (Array.getElem?_eq_some_iff.1 h).1
theorem Row.below {w w' : World} {b : Nat} {t : TypeId} {cs : List Value} (h : Row w b t cs) (hb : Below w.heap.size w w') : Row w' b t cs := h.keep (hb.block b h.lt)
theorem z01 (w : World) (cs : Array Value) (t : TypeId) : Row (w.alloc (.cells cs t)) w.heap.size t cs.toList := by
 show (w.heap.push _)[w.heap.size]? = _
 simp
theorem Row.alloc {w : World} {b : Nat} {t : TypeId} {cs : List Value} (h : Row w b t cs) (o : Obj) : Row (w.alloc o) b t cs := h.keep (Below.heap_alloc _ _ _ h.lt)
theorem Row.range {w : World} {b : Nat} {t : TypeId} {cs : List Value} (h : Row w b t cs) : w.rangeAt b 0 cs := fun j v hv => by
 rw [Nat.zero_add]; exact h.cell hv
theorem Row.there {w : World} {b : Nat} {t : TypeId} {cs : List Value} (h : Row w b t cs) (o n : Nat) (hn : o + n <= cs.length) : w.there b o n := fun j hj =>
 ⟨by rw [h.cell (List.getElem?_eq_getElem (show o + j < cs.length by omega))]; rfl, h.thaw _⟩
structure But (g : Nat) (w w' : World) : Prop where
 os : w'.os = w.os
 tape : w'.tape = w.tape
 output : w'.output = w.output
 size : w'.heap.size = w.heap.size
 block : ∀ k, k ≠ g -> w'.heap[k]? = w.heap[k]?
theorem But.refl (g : Nat) (w : World) : But g w w := ⟨rfl, rfl, rfl, rfl, fun _ _ => rfl⟩
theorem But.set {g : Nat} {w w' : World} (h : But g w w') (i : Nat) (u : Value) : But g w (w'.setCell ⟨g, i, none⟩ u) :=
 ⟨h.os, h.tape, h.output, by simpa [World.setCell] using h.size, fun k hk => (Below.heap_setCell _ _ _ _ hk).trans (h.block k hk)⟩
theorem But.drew {g : Nat} {w w' : World} (h : But g w w') : But g w w'.drew := ⟨h.os, h.tape, h.output, h.size, h.block⟩
theorem But.drewN {g : Nat} {w w' : World} (h : But g w w') (n : Nat) : But g w (w'.drewN n) := ⟨h.os, h.tape, h.output, h.size, h.block⟩
theorem But.trans {g : Nat} {a b c : World} (h : But g a b) (k : But g b c) : But g a c :=
 ⟨k.os.trans h.os, k.tape.trans h.tape, k.output.trans h.output, k.size.trans h.size, fun i hi => (k.block i hi).trans (h.block i hi)⟩
theorem But.below {g B : Nat} {w w' : World} (h : But g w w') (hg : B <= g) : Below B w w' := ⟨h.os, h.tape, h.output, Nat.le_of_eq h.size.symm, fun k hk => h.block k (by omega)⟩
theorem But.row {g b : Nat} {w w' : World} (h : But g w w') {t : TypeId} {cs : List Value} (hr : Row w b t cs) (hb : b ≠ g) : Row w' b t cs := hr.keep (h.block b hb)
theorem z05 (g : Nat) : ∀ (vs : List Value) (o : Nat) (w : World), But g w (w.setCells g o vs)
 | [], _, w => But.refl g w
 | v :: r, o, w => by rw [World.setCells]; exact ((But.refl g w).set o v).trans (z05 g r (o + 1) _)
structure Same (w w' : World) : Prop where
 os : w'.os = w.os
 tape : w'.tape = w.tape
 output : w'.output = w.output
 heap : w'.heap = w.heap
theorem Same.refl (w : World) : Same w w := ⟨rfl, rfl, rfl, rfl⟩
theorem Same.drewN {w w' : World} (h : Same w w') (n : Nat) : Same w (w'.drewN n) := ⟨h.os, h.tape, h.output, h.heap⟩
theorem Same.drew {w w' : World} (h : Same w w') : Same w w'.drew := ⟨h.os, h.tape, h.output, h.heap⟩
theorem Same.trans {a b c : World} (h : Same a b) (k : Same b c) : Same a c := ⟨k.os.trans h.os, k.tape.trans h.tape, k.output.trans h.output, k.heap.trans h.heap⟩
theorem Same.row {w w' : World} (h : Same w w') {b : Nat} {t : TypeId} {cs : List Value} (hr : Row w b t cs) : Row w' b t cs := hr.keep (by rw [h.heap])
theorem Same.below {B : Nat} {w w' : World} (h : Same w w') : Below B w w' := ⟨h.os, h.tape, h.output, by rw [h.heap]; exact Nat.le_refl _, fun k _ => by rw [h.heap]⟩
theorem Same.cell {w w' : World} (h : Same w w') (a : Addr) : w'.cell? a = w.cell? a := World.cell?_of_block (by rw [h.heap])
theorem Same.thaw {w w' : World} (h : Same w w') (a : Addr) : w'.frozen? a = w.frozen? a := World.frozen?_of_block (by rw [h.heap])
theorem z04 (w : World) (o : Obj) : Below w.heap.size w (w.alloc o) := (Below.refl _ w).alloc (Nat.le_refl _) o
theorem z2w (w : World) (o1 o2 : Obj) : Below w.heap.size w ((w.alloc o1).alloc o2) := (z04 w o1).alloc (by simp) o2
theorem z49 (w : World) (o1 o2 o3 : Obj) : Below w.heap.size w (((w.alloc o1).alloc o2).alloc o3) := (z2w w o1 o2).alloc (by simp; omega) o3
theorem z09 {B : Nat} {a w : World} (h : Below B a w) (n : Nat) : Below B a (w.drewN n) := ⟨h.os, h.tape, h.output, h.size, h.block⟩
theorem z00 {w w1 w2 : World} (h1 : Below w.heap.size w w1) (h2 : Below w1.heap.size w1 w2) : Below w.heap.size w w2 := h1.trans (h2.mono h1.size)
theorem z17 {w w' : World} {base : Nat} {e : TypeId} {size : Nat} {v : Value} {n : Nat} {xs : List Value} (h : w.ownsRow base e size v n xs) (hb : Below w.heap.size w w') : w'.ownsRow base e size v n xs := by
 refine ⟨h.1, ?_⟩
 rcases h.2 with h0 | ⟨g, cap, cur, hv, hbs, hh, hr⟩
 ·exact .inl h0
 ·exact .inr ⟨g, cap, cur, hv, hbs, (hb.block g (Array.getElem?_eq_some_iff.1 hh).1).trans hh, hr⟩
theorem z1b {w w' : World} {base : Nat} {e : TypeId} {size : Nat} {v : Value} {n : Nat} {xs : List Value} {A : Nat} (h : w.ownsRow base e size v n xs) (hb : But A w w') (hA : A < base) : w'.ownsRow base e size v n xs := by
 refine ⟨h.1, ?_⟩
 rcases h.2 with h0 | ⟨g, cap, cur, hv, hbs, hh, hr⟩
 ·exact .inl h0
 ·exact .inr ⟨g, cap, cur, hv, hbs, (hb.block g (by omega)).trans hh, hr⟩
theorem z0g {w : World} {base : Nat} {v : Value} {e : TypeId} {k n : Nat} {xs : List Value} (h : w.ownsRow base e k v n xs) : ∃ a cap, v = .slice a n cap /\ n <= cap /\ cap <= 9223372036854775807 /\ (0 < n -> ∃ g, a = some ⟨g, 0, none⟩) := by
 rcases h.2 with ⟨rfl, rfl⟩ | ⟨g, cap, cur, rfl, -, -, hc, hm, -⟩
 ·exact ⟨none, 0, rfl, Nat.le_refl _, by omega, fun h => by omega⟩
 ·exact ⟨_, cap, rfl, hc, by unfold maxLen at hm; exact hm, fun _ => ⟨g, rfl⟩⟩
structure Fr (X : Nat -> Prop) (w w' : World) : Prop where
 os : w'.os = w.os
 tape : w'.tape = w.tape
 output : w'.output = w.output
 size : w.heap.size <= w'.heap.size
 block : ∀ k, k < w.heap.size -> ¬ X k -> w'.heap[k]? = w.heap[k]?
section
variable {X Y : Nat -> Prop} {a w w' : World}
theorem Fr.refl (X : Nat -> Prop) (w : World) : Fr X w w := ⟨rfl, rfl, rfl, Nat.le_refl _, fun _ _ _ => rfl⟩
theorem Fr.trans (h : Fr X a w) (k : Fr X w w') : Fr X a w' :=
 ⟨k.os.trans h.os, k.tape.trans h.tape, k.output.trans h.output, Nat.le_trans h.size k.size, fun i hi hx => (k.block i (Nat.lt_of_lt_of_le hi h.size) hx).trans (h.block i hi hx)⟩
theorem Fr.mono (h : Fr X w w') (hxy : ∀ k, k < w.heap.size -> X k -> Y k) : Fr Y w w' := ⟨h.os, h.tape, h.output, h.size, fun k hk hy => h.block k hk (fun hx => hy (hxy k hk hx))⟩
theorem Fr.alloc (h : Fr X a w) (o : Obj) : Fr X a (w.alloc o) :=
 h.trans ⟨rfl, rfl, rfl, by simp, fun k hk _ => Below.heap_alloc _ _ _ hk⟩
theorem Fr.setCell (h : Fr X a w) {p : Addr} (hp : a.heap.size <= p.block ∨ X p.block) (u : Value) : Fr X a (w.setCell p u) :=
 ⟨h.os, h.tape, h.output, by simpa [World.setCell] using h.size, fun k hk hx => (Below.heap_setCell _ _ _ _ (fun e => by subst e; rcases hp with hp | hp; omega; exact hx hp)).trans (h.block k hk hx)⟩
theorem Fr.drew (h : Fr X a w) : Fr X a w.drew := ⟨h.os, h.tape, h.output, h.size, h.block⟩
theorem Fr.of_below (hb : Below w.heap.size w w') : Fr X w w' := ⟨hb.os, hb.tape, hb.output, hb.size, fun k hk _ => hb.block k hk⟩
theorem Fr.below {B : Nat} (h : Fr (fun k => B <= k) w w') (hB : B <= w.heap.size) : Below B w w' :=
 ⟨h.os, h.tape, h.output, h.size, fun k hk => h.block k (by omega) (by omega)⟩
theorem Fr.grown (h : Fr X a w) {row : Option Nat} (hg : w.grownBy w' row) (hr : ∀ g, row = some g -> a.heap.size <= g ∨ X g) : Fr X a w' :=
 ⟨hg.os.trans h.os, hg.tape.trans h.tape, hg.output.trans h.output, Nat.le_trans h.size hg.size, fun k hk hx => (hg.block k (Nat.lt_of_lt_of_le hk h.size) (fun e => by rcases hr k e.symm with h1 | h1; omega; exact hx h1)).trans (h.block k hk hx)⟩
theorem Fr.cell (h : Fr X w w') {p : Addr} (hp : p.block < w.heap.size) (hx : ¬ X p.block) : w'.cell? p = w.cell? p := World.cell?_of_block (h.block _ hp hx)
end
theorem z0f {w w' : World} {base : Nat} {e : TypeId} {size : Nat} {v : Value} {n : Nat} {xs : List Value} (h : w.ownsRow base e size v n xs) (hk : ∀ g, v.ownBlock = some g -> w'.heap[g]? = w.heap[g]?) : w'.ownsRow base e size v n xs := by
 refine ⟨h.1, ?_⟩
 rcases h.2 with h0 | ⟨g, cap, cur, hv, hb, hh, hr⟩
 ·exact .inl h0
 ·exact .inr ⟨g, cap, cur, hv, hb, (hk g (by rw [hv]; rfl)).trans hh, hr⟩
theorem Fr.of_same {X : Nat -> Prop} {w w' : World} (h : Same w w') : Fr X w w' := ⟨h.os, h.tape, h.output, by rw [h.heap]; exact Nat.le_refl _, fun k _ _ => by rw [h.heap]⟩
theorem Fr.to_below {g : Nat} {W w w' : World} (hb : Below W.heap.size W w) (h : Fr (· = g) w w') (hg : W.heap.size <= g) : Below W.heap.size W w' :=
 ⟨h.os.trans hb.os, h.tape.trans hb.tape, h.output.trans hb.output, Nat.le_trans hb.size h.size, fun k hk => (h.block k (Nat.lt_of_lt_of_le hk hb.size) (by omega)).trans (hb.block k hk)⟩
def Ty (T : List Nat) (w : World) (b : Nat) : Prop := ∃ cs t z, w.heap[b]? = some (.cells cs t z) /\ t ∈ T
theorem Ty.lt {T : List Nat} {w : World} {b : Nat} (h : Ty T w b) : b < w.heap.size := by
 obtain ⟨cs, t, z, h, -⟩ := h
 exact (Array.getElem?_eq_some_iff.1 h).1
theorem Ty.keep {T : List Nat} {w w' : World} {b : Nat} (h : Ty T w b) (hk : w'.heap[b]? = w.heap[b]?) : Ty T w' b := by
 obtain ⟨cs, t, z, h, ht⟩ := h
 exact ⟨cs, t, z, hk.trans h, ht⟩
theorem Ty.mono {T T' : List Nat} {w : World} {b : Nat} (h : Ty T w b) (hT : ∀ t ∈ T, t ∈ T') : Ty T' w b := by
 obtain ⟨cs, t, z, h, ht⟩ := h
 exact ⟨cs, t, z, h, hT t ht⟩
theorem Ty.ne {T : List Nat} {w : World} {b g : Nat} {cs : Array Value} {t : TypeId} {z : Nat × Nat} (h : Ty T w b) (hg : w.heap[g]? = some (.cells cs t z)) (ht : t ∉ T) : b ≠ g := by
 rintro rfl
 obtain ⟨cs', t', z', h, ht'⟩ := h
 rw [hg] at h
 injection h with h
 injection h with _ h
 subst h
 exact ht ht'
def KpT (T : List Nat) (w w' : World) : Prop := ∀ b, Ty T w b -> w'.heap[b]? = w.heap[b]?
theorem KpT.of_below {T : List Nat} {w w' : World} (h : Below w.heap.size w w') : KpT T w w' := fun b hb => h.block b hb.lt
theorem KpT.trans {T : List Nat} {a b c : World} (h : KpT T a b) (k : KpT T b c) : KpT T a c := fun x hx => (k x (hx.keep (h x hx))).trans (h x hx)
def At {α : Type} (k : Nat) (C : α -> List Value -> Prop) (w : World) (b o : Nat) (x : α) : Prop := ∃ cs, cs.length = k /\ C x cs /\ ∀ j u, cs[j]? = some u -> w.cell? ⟨b, o + j, none⟩ = some u
def Sl {α : Type} (k : Nat) (C : α -> List Value -> Prop) (w : World) (S : Nat -> Prop) (v : Value) (xs : List α) : Prop :=
 ∃ a cap, v = .slice a xs.length cap /\ xs.length <= cap /\ cap <= 9223372036854775807 /\ (xs ≠ [] -> ∃ b off, a = some ⟨b, off, none⟩ /\ S b /\ ∀ (j : Nat) (x : α), xs[j]? = some x -> At k C w b (off + j * k) x)
theorem At.keep {α : Type} {k : Nat} {C C' : α -> List Value -> Prop} {w w' : World} {b o : Nat} {x : α} (h : At k C w b o x) (hk : w'.heap[b]? = w.heap[b]?) (hC : ∀ x cs, C x cs -> C' x cs) : At k C' w' b o x := by
 obtain ⟨cs, hl, hx, hc⟩ := h
 exact ⟨cs, hl, hC _ _ hx, fun j u hu => (World.cell?_of_block (a := ⟨b, o + j, none⟩) hk).trans (hc j u hu)⟩
theorem Sl.keep {α : Type} {k : Nat} {C C' : α -> List Value -> Prop} {w w' : World} {S S' : Nat -> Prop} {v : Value} {xs : List α} (h : Sl k C w S v xs) (hk : ∀ b, S b -> w'.heap[b]? = w.heap[b]?) (hS : ∀ b, S b -> S' b) (hC : ∀ x cs, C x cs -> C' x cs) : Sl k C' w' S' v xs := by
 obtain ⟨a, cap, hv, hl, hm, hx⟩ := h
 refine ⟨a, cap, hv, hl, hm, fun hne => ?_⟩
 obtain ⟨b, off, ha, hb, hat⟩ := hx hne
 exact ⟨b, off, ha, hS b hb, fun j x hj => (hat j x hj).keep (hk b hb) hC⟩
def Cat {α : Type} (k : Nat) (C : α -> List Value -> Prop) : List α -> List Value -> Prop
 | [], vs => vs = []
 | x :: r, vs => ∃ cs rest, vs = cs ++ rest /\ cs.length = k /\ C x cs /\ Cat k C r rest
theorem Cat.mono {α : Type} {k : Nat} {C C' : α -> List Value -> Prop} (hC : ∀ x cs, C x cs -> C' x cs) : ∀ {xs : List α} {vs : List Value}, Cat k C xs vs -> Cat k C' xs vs
 | [], _, h => h
 | x :: r, vs, h => by
  obtain ⟨cs, rest, hv, hl, hx, hr⟩ := h
  exact ⟨cs, rest, hv, hl, hC _ _ hx, Cat.mono hC hr⟩
theorem Cat.snoc {α : Type} {k : Nat} {C : α -> List Value -> Prop} {x : α} {cs : List Value} (hl : cs.length = k) (hx : C x cs) : ∀ {xs : List α} {vs : List Value}, Cat k C xs vs -> Cat k C (xs ++ [x]) (vs ++ cs)
 | [], vs, h => by
  obtain rfl : vs = [] := h
  exact ⟨cs, [], by simp, hl, hx, rfl⟩
 | y :: r, vs, h => by
  obtain ⟨ds, rest, rfl, hd, hy, hr⟩ := h
  exact ⟨ds, rest ++ cs, by simp, hd, hy, Cat.snoc hl hx hr⟩
theorem Cat.one {α : Type} {k : Nat} {C : α -> List Value -> Prop} {x : α} {cs : List Value} (hl : cs.length = k) (hx : C x cs) : Cat k C [x] cs := ⟨cs, [], by simp, hl, hx, rfl⟩
theorem Cat.get {α : Type} {k : Nat} {C : α -> List Value -> Prop} : ∀ {xs : List α} {vs : List Value}, Cat k C xs vs -> ∀ (j : Nat) (x : α), xs[j]? = some x -> ∃ cs, cs.length = k /\ C x cs /\ ∀ i u, cs[i]? = some u -> vs[j * k + i]? = some u
 | [], _, _, j, x, hj => by simp at hj
 | y :: r, vs, h, 0, x, hj => by
  obtain ⟨cs, rest, rfl, hl, hx, hr⟩ := h
  obtain rfl : y = x := by simpa using hj
  exact ⟨cs, hl, hx, fun i u hu => by
   rw [Nat.zero_mul, Nat.zero_add, List.getElem?_append_left (by have := (List.getElem?_eq_some_iff.1 hu).1; omega)]; exact hu⟩
 | y :: r, vs, h, j + 1, x, hj => by
  obtain ⟨cs, rest, rfl, hl, hx, hr⟩ := h
  obtain ⟨ds, hd, hdx, hc⟩ := Cat.get hr j x (by simpa using hj)
  refine ⟨ds, hd, hdx, fun i u hu => ?_⟩
  rw [Nat.succ_mul, List.getElem?_append_right (by omega), show j * k + k + i - cs.length = j * k + i by omega]
  exact hc i u hu
theorem z5l {w : World} {base k n : Nat} {e : TypeId} {v : Value} {vs : List Value} (h : w.ownsRow base e k v n vs) {b off : Nat} {cap m : Nat} (hv : v = .slice (some ⟨b, off, none⟩) m cap) : off = 0 /\ (∃ cs z, w.heap[b]? = some (.cells cs e z)) /\ ∀ i u, vs[i]? = some u -> w.cell? ⟨b, i, none⟩ = some u := by
 rcases h.2 with ⟨rfl, h0⟩ | ⟨g, cap', cur, rfl, hb, hh, hc, -, hs, ht⟩
 ·cases hv
 ·injection hv with hv
  injection hv with hv
  injection hv with h1 h2
  subst h1
  refine ⟨h2.symm, ⟨_, _, hh⟩, fun i u hu => ?_⟩
  have hlt := (List.getElem?_eq_some_iff.1 hu).1
  have := h.1
  rw [<- ht, List.getElem?_take, if_pos (by omega), Array.getElem?_toList] at hu
  simp only [World.cell?, hh, hu]
  simp
theorem Sl.of_owns {α : Type} {k : Nat} {C : α -> List Value -> Prop} {w : World} {base : Nat} {e : TypeId} {v : Value} {xs : List α} {vs : List Value} (h : w.ownsRow base e k v xs.length vs) (hc : Cat k C xs vs) {S : Nat -> Prop} (hS : ∀ b cs z, w.heap[b]? = some (.cells cs e z) -> S b) : Sl k C w S v xs := by
 obtain ⟨a, cap, hv, hl, hm, hx⟩ := z0g h
 refine ⟨a, cap, hv, hl, hm, fun hne => ?_⟩
 obtain ⟨g, rfl⟩ := hx (List.length_pos_iff.2 hne)
 obtain ⟨-, ⟨cs, z, hh⟩, hcell⟩ := z5l h hv
 refine ⟨g, 0, rfl, hS _ _ _ hh, fun j x hj => ?_⟩
 obtain ⟨ds, hd, hdx, hdc⟩ := hc.get j x hj
 exact ⟨ds, hd, hdx, fun i u hu => by rw [Nat.zero_add]; exact hcell _ _ (hdc i u hu)⟩
theorem z7z (w : World) (cs : Array Value) (t : TypeId) {B : Nat} (hB : w.heap.size = B) : ∀ j v, cs.toList[j]? = some v -> (w.alloc (.cells cs t)).cell? (Addr.add ⟨B, 0, none⟩ j) = some v := fun j v hv => by
 subst hB
 rw [Addr.add_mid, Nat.zero_add]
 exact (z01 w cs t).cell hv
theorem info42 : (Tryz.prog.info? 263).map (fun i => (i.zero, i.size, i.bytes)) = some (some (.agg #[.int .i64 0, .string ByteArray.empty, .string ByteArray.empty, .slice none 0 0]), 4, 64) := by kernel_rfl
theorem info44 : (Tryz.prog.info? 284).map (fun i => (i.zero, i.size, i.bytes)) = some (some (.agg #[.string ByteArray.empty, .slice none 0 0]), 2, 40) := by kernel_rfl
abbrev BA := ByteArray
def CP (w : World) (S : Nat -> Prop) : Nat -> Pt -> List Value -> Prop
 | 0, _, _ => False
 | n + 1, x, cs => ∃ v, cs = [.int .i64 x.k, .string x.t, .string x.n, v] /\ Sl 2 (fun (c : Cs) ds => ∃ u, ds = [.string c.key, u] /\ Sl 4 (CP w S n) w S u c.kids) w S v x.cs
def CC (w : World) (S : Nat -> Prop) (n : Nat) (c : Cs) (ds : List Value) : Prop := ∃ u, ds = [.string c.key, u] /\ Sl 4 (CP w S n) w S u c.kids
abbrev SlP (w : World) (S : Nat -> Prop) (n : Nat) (v : Value) (xs : List Pt) : Prop := Sl 4 (CP w S n) w S v xs
abbrev SlC (w : World) (S : Nat -> Prop) (n : Nat) (v : Value) (xs : List Cs) : Prop := Sl 2 (CC w S n) w S v xs
theorem CP.out {w : World} {S : Nat -> Prop} {n : Nat} {x : Pt} {cs : List Value} (h : CP w S n x cs) : ∃ m v, n = m + 1 /\ cs = [.int .i64 x.k, .string x.t, .string x.n, v] /\ SlC w S m v x.cs := by
 cases n with
 | zero => exact h.elim
 | succ m => obtain ⟨v, h1, h2⟩ := h; exact ⟨m, v, rfl, h1, h2⟩
theorem CP.mk {w : World} {S : Nat -> Prop} {n : Nat} {k : Int} {t nm : BA} {cs : List Cs} {v : Value} (h : SlC w S n v cs) : CP w S (n + 1) (.mk k t nm cs) [.int .i64 k, .string t, .string nm, v] := ⟨v, rfl, h⟩
theorem CC.mk {w : World} {S : Nat -> Prop} {n : Nat} {key : BA} {kids : List Pt} {v : Value} (h : SlP w S n v kids) : CC w S n (.mk key kids) [.string key, v] := ⟨v, rfl, h⟩
theorem CP.keep {w w' : World} {S S' : Nat -> Prop} (hk : ∀ b, S b -> w'.heap[b]? = w.heap[b]?) (hS : ∀ b, S b -> S' b) : ∀ {n : Nat} {x : Pt} {cs : List Value}, CP w S n x cs -> CP w' S' n x cs
 | 0, _, _, h => h.elim
 | n + 1, x, cs, h => by
  obtain ⟨v, h1, h2⟩ := h
  refine ⟨v, h1, Sl.keep h2 hk hS ?_⟩
  rintro c ds ⟨u, hu, hs⟩
  exact ⟨u, hu, Sl.keep hs hk hS (fun _ _ => CP.keep hk hS)⟩
theorem CP.more {w : World} {S : Nat -> Prop} : ∀ {n : Nat} {x : Pt} {cs : List Value}, CP w S n x cs -> CP w S (n + 1) x cs
 | 0, _, _, h => h.elim
 | n + 1, x, cs, h => by
  obtain ⟨v, h1, h2⟩ := h
  refine ⟨v, h1, Sl.keep h2 (fun _ _ => rfl) (fun _ h => h) ?_⟩
  rintro c ds ⟨u, hu, hs⟩
  exact ⟨u, hu, Sl.keep hs (fun _ _ => rfl) (fun _ h => h) (fun _ _ => CP.more)⟩
theorem CP.le {w : World} {S : Nat -> Prop} {n m : Nat} {x : Pt} {cs : List Value} (h : CP w S n x cs) (hnm : n <= m) : CP w S m x cs := by
 obtain ⟨d, rfl⟩ := Nat.exists_eq_add_of_le hnm
 induction d with
 | zero => exact h
 | succ d ih => exact CP.more (ih (by omega))
theorem SlP.keep {w w' : World} {S S' : Nat -> Prop} {n : Nat} {v : Value} {xs : List Pt} (h : SlP w S n v xs) (hk : ∀ b, S b -> w'.heap[b]? = w.heap[b]?) (hS : ∀ b, S b -> S' b) : SlP w' S' n v xs := Sl.keep h hk hS (fun _ _ => CP.keep hk hS)
theorem SlP.le {w : World} {S : Nat -> Prop} {n m : Nat} {v : Value} {xs : List Pt} (h : SlP w S n v xs) (hnm : n <= m) : SlP w S m v xs := Sl.keep h (fun _ _ => rfl) (fun _ h => h) (fun _ _ h => h.le hnm)
theorem CC.keep {w w' : World} {S S' : Nat -> Prop} {n : Nat} {c : Cs} {ds : List Value} (h : CC w S n c ds) (hk : ∀ b, S b -> w'.heap[b]? = w.heap[b]?) (hS : ∀ b, S b -> S' b) : CC w' S' n c ds := by
 obtain ⟨u, hu, h⟩ := h
 exact ⟨u, hu, SlP.keep h hk hS⟩
theorem CC.le {w : World} {S : Nat -> Prop} {n m : Nat} {c : Cs} {ds : List Value} (h : CC w S n c ds) (hnm : n <= m) : CC w S m c ds := by
 obtain ⟨u, hu, h⟩ := h
 exact ⟨u, hu, SlP.le h hnm⟩
theorem SlC.keep {w w' : World} {S S' : Nat -> Prop} {n : Nat} {v : Value} {xs : List Cs} (h : SlC w S n v xs) (hk : ∀ b, S b -> w'.heap[b]? = w.heap[b]?) (hS : ∀ b, S b -> S' b) : SlC w' S' n v xs := Sl.keep h hk hS (fun _ _ h => h.keep hk hS)
theorem SlC.le {w : World} {S : Nat -> Prop} {n m : Nat} {v : Value} {xs : List Cs} (h : SlC w S n v xs) (hnm : n <= m) : SlC w S m v xs := Sl.keep h (fun _ _ => rfl) (fun _ h => h) (fun _ _ h => h.le hnm)
theorem Sl.nil {α : Type} (k : Nat) (C : α -> List Value -> Prop) (w : World) (S : Nat -> Prop) : Sl k C w S (.slice none 0 0) [] := ⟨none, 0, rfl, Nat.le_refl _, by omega, fun h => absurd rfl h⟩
abbrev Old (w : World) (b : Nat) : Prop := b < w.heap.size
abbrev Fsh (B : Nat) (w : World) (b : Nat) : Prop := B <= b /\ b < w.heap.size
abbrev Oth (B : Nat) (v : Value) (w : World) (b : Nat) : Prop := B <= b /\ b < w.heap.size /\ v.ownBlock ≠ some b
structure Gw {α : Type} (e k : Nat) (C : World -> (Nat -> Prop) -> α -> List Value -> Prop) (B : Nat) (w : World) (v : Value) (xs : List α) (vs : List Value) : Prop where
 own : w.ownsRow B e k v xs.length vs
 cat : Cat k (C w (Oth B v w)) xs vs
def Kp {α : Type} (C : World -> (Nat -> Prop) -> α -> List Value -> Prop) : Prop := ∀ {w w' : World} {S S' : Nat -> Prop} {x : α} {cs : List Value}, C w S x cs -> (∀ b, S b -> w'.heap[b]? = w.heap[b]?) -> (∀ b, S b -> S' b) -> C w' S' x cs
abbrev CPn (n : Nat) (w : World) (S : Nat -> Prop) (x : Pt) (cs : List Value) : Prop := CP w S n x cs
abbrev CCn (n : Nat) (w : World) (S : Nat -> Prop) (x : Cs) (cs : List Value) : Prop := CC w S n x cs
theorem kpP (n : Nat) : Kp (CPn n) := fun h hk hS => CP.keep hk hS h
theorem kpC (n : Nat) : Kp (CCn n) := fun h hk hS => CC.keep h hk hS
section
variable {α : Type} {e k : Nat} {C : World -> (Nat -> Prop) -> α -> List Value -> Prop} {B : Nat} {w w' : World} {v : Value} {xs : List α} {vs : List Value}
theorem Gw.nil (e k : Nat) (C : World -> (Nat -> Prop) -> α -> List Value -> Prop) (B : Nat) (w : World) : Gw e k C B w (.slice none 0 0) [] [] := ⟨World.ownsRow_nil _ _ _ _, rfl⟩
theorem Gw.fr (h : Gw e k C B w v xs vs) (hC : Kp C) {X : Nat -> Prop} (hf : Fr X w w') (hX : ∀ b, B <= b -> b < w.heap.size -> ¬ X b) : Gw e k C B w' v xs vs :=
 ⟨z0f h.own (fun g hg => hf.block g (h.own.lt g hg).2 (hX g (h.own.lt g hg).1 (h.own.lt g hg).2)), h.cat.mono (fun _ _ hx => hC hx (fun b hb => hf.block b hb.2.1 (hX b hb.1 hb.2.1)) (fun _ hb => ⟨hb.1, Nat.lt_of_lt_of_le hb.2.1 hf.size, hb.2.2⟩))⟩
theorem Gw.done (h : Gw e k C B w v xs vs) (hC : Kp C) : Sl k (C w (Fsh B w)) w (Fsh B w) v xs := by
 have hown := h.own
 obtain ⟨a, cap, hv, hl, hm, hx⟩ := z0g hown
 refine ⟨a, cap, hv, hl, hm, fun hne => ?_⟩
 obtain ⟨g, rfl⟩ := hx (List.length_pos_iff.2 hne)
 obtain ⟨-, -, hcell⟩ := z5l hown hv
 have hlt := hown.lt g (by rw [hv]; rfl)
 refine ⟨g, 0, rfl, ⟨hlt.1, hlt.2⟩, fun j x hj => ?_⟩
 obtain ⟨ds, hd, hdx, hdc⟩ := h.cat.get j x hj
 exact ⟨ds, hd, hC hdx (fun _ _ => rfl) (fun b hb => ⟨hb.1, hb.2.1⟩), fun i u hu => by rw [Nat.zero_add]; exact hcell _ _ (hdc i u hu)⟩
theorem Gw.push {w9 : World} {o : Obj} {x : α} {cs : List Value} {g c n : Nat} {B2 : Nat} (h : Gw e k C B w v xs vs) (hC : Kp C) (hn : n = xs.length) (hx : C w (Fsh B2 w) x cs) (hB : B <= B2) (hv : ∀ b, v.ownBlock = some b -> b < B2) (hk : cs.length = k)
  (hg : (w.alloc o).grownBy w9 v.ownBlock) (hown : w9.ownsRow B e k (.slice (some ⟨g, 0, none⟩) (n + 1) c) (n + 1) (vs ++ cs)) (hgl : v.ownBlock = some g ∨ w.heap.size <= g) :
  Gw e k C B w9 (.slice (some ⟨g, 0, none⟩) (n + 1) c) (xs ++ [x]) (vs ++ cs) := by
 have hsz : w.heap.size <= w9.heap.size := by have := hg.size; rw [World.size_alloc] at this; omega
 have hblk : ∀ b, b < w.heap.size -> v.ownBlock ≠ some b -> w9.heap[b]? = w.heap[b]? := fun b hb hne =>
  (hg.block b (by rw [World.size_alloc]; omega) (fun e => hne e.symm)).trans (Below.heap_alloc _ _ _ hb)
 have hne : ∀ b, b < w.heap.size -> v.ownBlock ≠ some b -> (Value.slice (some ⟨g, 0, none⟩) (n + 1) c).ownBlock ≠ some b := fun b hb hq e => by
  have e2 : g = b := Option.some.inj e
  subst e2
  rcases hgl with z | z
  ·exact hq z
  ·omega
 refine ⟨by rw [List.length_append, <- hn]; exact hown, Cat.snoc hk ?_ (h.cat.mono (fun _ _ hy => hC hy (fun b hb => hblk b hb.2.1 hb.2.2) (fun b hb => ⟨hb.1, by omega, hne b hb.2.1 hb.2.2⟩)))⟩
 have hq : ∀ b, Fsh B2 w b -> v.ownBlock ≠ some b := fun b hb e => by have := hv b e; omega
 exact hC hx (fun b hb => hblk b hb.2 (hq b hb)) (fun b hb => ⟨by omega, by omega, hne b hb.2 (hq b hb)⟩)
end
theorem Gw.leP {n m : Nat} {B : Nat} {w : World} {v : Value} {xs : List Pt} {vs : List Value} (h : Gw 263 4 (CPn n) B w v xs vs) (hnm : n <= m) : Gw 263 4 (CPn m) B w v xs vs := ⟨h.own, h.cat.mono (fun _ _ hx => CP.le hx hnm)⟩
theorem Gw.leC {n m : Nat} {B : Nat} {w : World} {v : Value} {xs : List Cs} {vs : List Value} (h : Gw 284 2 (CCn n) B w v xs vs) (hnm : n <= m) : Gw 284 2 (CCn m) B w v xs vs := ⟨h.own, h.cat.mono (fun _ _ hx => CC.le hx hnm)⟩
theorem z9t (s : BA) (k : Nat) (h : k < s.size) : s.data.toList[k]? = some s[k] := by rw [Array.getElem?_toList, Array.getElem?_eq_getElem (show k < s.data.size from h)]; rfl
theorem z08 (s : BA) : s.data.toList.length = s.size := by simp
theorem zcz (c : UInt8) (r : List UInt8) : ByteArray.extract ⟨(c :: r).toArray⟩ 0 1 = ⟨#[c]⟩ := by
 apply ByteArray.ext
 simp [ByteArray.data_extract]
theorem z6z (c : UInt8) (r : List UInt8) : ByteArray.size ⟨(c :: r).toArray⟩ = r.length + 1 := by simp [ByteArray.size]
theorem drop_at {l : List UInt8} {k : Nat} {c : UInt8} (h : l[k]? = some c) : l.drop k = c :: l.drop (k + 1) := by
 obtain ⟨hi, rfl⟩ := List.getElem?_eq_some_iff.1 h
 exact List.drop_eq_getElem_cons hi
theorem z8u (t : BA) (k : Nat) (h : k < t.size) : (ByteArray.extract t k (k + 1)).data.toList = [t[k]] := by
 have h1 := z9t t k h
 have h2 : (ByteArray.extract t k (k + 1)).data.toList = (t.data.toList.drop k).take (k + 1 - k) := by simp [ByteArray.data_extract]
 rw [h2, show k + 1 - k = 1 by omega, List.take_one, List.head?_drop, h1]; rfl
end Go.Proofs.YtdkkkeoicekdgaaGreatDoor

end

section

namespace Go.Proofs.YtdkkkeoicekdgaaGreatDoor
def nowF (l : List UInt8) (S : St) : Option UInt8 := if S.2 = 0 then l[S.1]? else none
theorem now_live {l : List UInt8} {S : St} {c : UInt8} (h : nowF l S = some c) : S.2 = 0 /\ l[S.1]? = some c := by
 unfold nowF at h; split at h
 ·rename_i h0; exact ⟨h0, h⟩
 ·cases h
theorem now_of {l : List UInt8} {S : St} {c : UInt8} (h0 : S.2 = 0) (h : l[S.1]? = some c) : nowF l S = some c := by unfold nowF; rw [if_pos h0, h]
theorem zb6 {l r : List UInt8} {S : St} {c : UInt8} (h : nowF l S ≠ some c) : wordF l (c :: r) S = failF l S := by
 by_cases h0 : S.2 = 0
 ·rw [wordF]
  have : (oneF l [c] S).2 = failF l S := by
   unfold oneF
   rw [if_pos h0]
   cases hx : l[S.1]? with
   | none => rfl
   | some d =>
    simp only
    rw [if_neg]
    intro hd
    obtain rfl : d = c := by simpa using hd
    exact h (now_of h0 hx)
  rw [this, z1y l r (z33 l S)]
 ·rw [z1y l _ h0, z24 h0]
def Gd (l : List UInt8) (D P : List UInt8 × St) : Prop :=
 (D.2 = P.2 /\ (D.2.2 = 0 -> D.1 = P.1)) ∨ (P.2.2 = 0 /\ D.2 = failF l P.2 /\ ∃ c, l[P.2.1]? = some c /\ isWrd c = true)
theorem Gd.word {l : List UInt8} {D P : List UInt8 × St} (h : Gd l D P) {c : UInt8} {r : List UInt8} (hc : isWrd c = false) : wordF l (c :: r) D.2 = wordF l (c :: r) P.2 := by
 rcases h with ⟨h, -⟩ | ⟨h1, h2, d, h3, h4⟩
 ·rw [h]
 ·rw [h2, z1y l _ (z33 l _), zb6]
  intro e
  have := (now_live e).2
  rw [h3] at this
  obtain rfl := Option.some.inj this
  rw [hc] at h4; cases h4
end Go.Proofs.YtdkkkeoicekdgaaGreatDoor

end

section

namespace Go.Proofs.YtdkkkeoicekdgaaGreatDoor
def isSp (d : UInt8) : Prop := d = 39 ∨ d = 123 ∨ d = 125 ∨ d = 35
instance (d : UInt8) : Decidable (isSp d) := by unfold isSp; infer_instance
abbrev tx (t : List UInt8) : Pt := .mk 1 (ba t) (ba []) []
end Go.Proofs.YtdkkkeoicekdgaaGreatDoor

end

section

namespace Go.Proofs.YtdkkkeoicekdgaaGreatDoor
end Go.Proofs.YtdkkkeoicekdgaaGreatDoor

end

section

namespace Go.Proofs.YtdkkkeoicekdgaaGreatDoor
end Go.Proofs.YtdkkkeoicekdgaaGreatDoor

end
