/- What may be, one by one: mathematics. -/
import Derived.Test.YtdnedbcmgkilaaaGreatDoorChecked
import Derived.Deep.MidRow
import Derived.Lib.UnsafeStr
import Derived.Below
import Derived.Deep.Draws
import Derived.WalkSpells
import Derived.Lib.Hide
import Derived.Lib.LaidTab
import Derived.Lib.AppendIntMem
import Derived.Laws.OwnMore
import Derived.Deep.AppendLies
import Derived.Shelf.LaysM
import Derived.Shelf.LaysC
import Derived.Shelf.Strconv.Itoa3
import Derived.Shelf.Strconv.Itoa4
import Derived.Shelf.Strconv.AtoiAll
import Derived.Shelf.Strings.Prefix
import Derived.Shelf.Strings.BuilderF
import Derived.Shelf.Strings.BuilderK
import Derived.Shelf.Strings.OnBuilder
import Derived.Shelf.Strings.Split
import Derived.Shelf.Strings.Cut
import Derived.Shelf.GgClosure.StringsIndexFuncTop
import Derived.Test.YtdnedbcmgkilaaaGreatDoorProg
import Derived.Deep.QuietTactic
import Derived.BigQuiet
import Derived.IntWalk
import Derived.Lib.ItoaNum
import Derived.Lib.ItoaLen
import Derived.Lib.AtoiAll
import Derived.Shelf.Strings.Search3
import Derived.Test.YtdnedbcmgkilaaaGreatDoorZA

section

namespace Go.Proofs.YtdnedbcmgkilaaaGreatDoor

/-- What lies inside the cases of parts. -/
def subs : List Pt → Nat
  | [] => 0
  | x :: r => cntCs x.cs + subs r
theorem cntP_eq (x : Pt) : cntP x = 1 + cntCs x.cs := by cases x; rw [cntP]; rfl
theorem cntC_eq (x : Cs) : cntC x = cntPs x.kids := by cases x; rw [cntC]; rfl
theorem dpP_eq (x : Pt) : dpP x = dpCs x.cs := by cases x; rw [dpP]; rfl
theorem dpC_eq (x : Cs) : dpC x = dpPs x.kids + 1 := by cases x; rw [dpC]; rfl
theorem cntPs_subs : ∀ xs : List Pt, cntPs xs = xs.length + subs xs
  | [] => by rw [cntPs, subs]; rfl
  | x :: r => by rw [cntPs, cntP_eq, subs, cntPs_subs r, List.length_cons]; omega
theorem subs_snoc : ∀ (xs : List Pt) (x : Pt), subs (xs ++ [x]) = subs xs + cntCs x.cs
  | [], x => by simp [subs]
  | y :: r, x => by show subs (y :: (r ++ [x])) = _; rw [subs, subs, subs_snoc r x]; omega
theorem cntCs_snoc : ∀ (xs : List Cs) (x : Cs), cntCs (xs ++ [x]) = cntCs xs + cntC x
  | [], x => by simp [cntCs]
  | y :: r, x => by show cntCs (y :: (r ++ [x])) = _; rw [cntCs, cntCs, cntCs_snoc r x]; omega
theorem take_one {α : Type} {xs : List α} {k : Nat} {x : α} (h : xs[k]? = some x) : xs.take (k + 1) = xs.take k ++ [x] := by
  obtain ⟨hlt, hx⟩ := List.getElem?_eq_some_iff.1 h
  rw [List.take_succ_eq_append_getElem hlt, hx]
theorem drop_one {α : Type} {xs : List α} {k : Nat} {x : α} (h : xs[k]? = some x) : xs.drop k = x :: xs.drop (k + 1) := by
  obtain ⟨hlt, hx⟩ := List.getElem?_eq_some_iff.1 h
  rw [List.drop_eq_getElem_cons hlt, hx]
theorem subs_take {xs : List Pt} {k : Nat} {x : Pt} (h : xs[k]? = some x) : subs (xs.take (k + 1)) = subs (xs.take k) + cntCs x.cs := by rw [take_one h, subs_snoc]
theorem cntCs_take {xs : List Cs} {k : Nat} {x : Cs} (h : xs[k]? = some x) : cntCs (xs.take (k + 1)) = cntCs (xs.take k) + cntPs x.kids := by rw [take_one h, cntCs_snoc, cntC_eq]
theorem dpPs_take {xs : List Pt} {k : Nat} {x : Pt} (h : xs[k]? = some x) : dpPs (xs.take (k + 1)) = max (dpPs (xs.take k)) (dpCs x.cs) := by rw [take_one h, dp_snoc, dpP_eq]
theorem dpCs_take {xs : List Cs} {k : Nat} {x : Cs} (h : xs[k]? = some x) : dpCs (xs.take (k + 1)) = max (dpCs (xs.take k)) (dpPs x.kids + 1) := by rw [take_one h, dpC_snoc, dpC_eq]
theorem subs_le : ∀ (xs : List Pt) (k : Nat), subs (xs.take k) ≤ subs xs
  | [], k => by simp
  | _ :: _, 0 => by simp [subs]
  | x :: r, k + 1 => by rw [List.take_succ_cons, subs, subs]; have := subs_le r k; omega
theorem cntCs_le : ∀ (xs : List Cs) (k : Nat), cntCs (xs.take k) ≤ cntCs xs
  | [], k => by simp
  | _ :: _, 0 => by simp [cntCs]
  | x :: r, k + 1 => by rw [List.take_succ_cons, cntCs, cntCs]; have := cntCs_le r k; omega
theorem subs_at {xs : List Pt} {k : Nat} {x : Pt} (h : xs[k]? = some x) : subs (xs.take k) + cntCs x.cs ≤ subs xs := by
  have := subs_le xs (k + 1); rw [subs_take h] at this; exact this
theorem kids_at {xs : List Cs} {k : Nat} {x : Cs} (h : xs[k]? = some x) : cntCs (xs.take k) + cntPs x.kids ≤ cntCs xs := by
  have := cntCs_le xs (k + 1); rw [cntCs_take h] at this; exact this
theorem len_cnt (xs : List Pt) : xs.length ≤ cntPs xs := by rw [cntPs_subs]; omega
/-- What has been counted: as far as that is not too much. -/
def Vi (c d br N dp C D : Nat) : Prop := c ≤ C ∧ C ≤ c + N ∧ (C ≤ 1000 → C = c + N ∧ D = max d (br + dp))
theorem Vi.step {c d br N dp C D N' dp' C' D' : Nat} (h : Vi c d br N dp C D) (hC : C ≤ 1000) (k : Vi C D (br + 1) N' dp' C' D') : Vi c d br (N + N') (max dp (dp' + 1)) C' D' := by
  obtain ⟨h1, h2, h3⟩ := h
  obtain ⟨k1, k2, k3⟩ := k
  obtain ⟨h4, h5⟩ := h3 hC
  refine ⟨by omega, by omega, fun hC' => ?_⟩
  obtain ⟨k4, k5⟩ := k3 hC'
  exact ⟨by omega, by omega⟩
theorem Vi.over {c d br N dp C D N' dp' : Nat} (h : Vi c d br N dp C D) (hC : 1000 < C) (hN : N ≤ N') : Vi c d br N' dp' C D := by
  obtain ⟨h1, h2, h3⟩ := h
  exact ⟨h1, by omega, fun h => by omega⟩
theorem cntPs_snoc (xs : List Pt) (x : Pt) : cntPs (xs ++ [x]) = cntPs xs + cntP x := by
  rw [cntPs_subs, cntPs_subs, subs_snoc, cntP_eq, List.length_append, List.length_singleton]; omega
theorem cnt_both (l : List UInt8) : ∀ f, (∀ h o acc S, (partsL l f h o acc S).2.2 = 0 → cntPs (partsL l f h o acc S).1 + S.1 ≤ cntPs acc + (partsL l f h o acc S).2.1) ∧ (∀ h o acc b, (casesL l f h o acc b).2.2 = 0 → cntCs (casesL l f h o acc b).1 + b.2.1 ≤ cntCs acc + (casesL l f h o acc b).2.1)
  | 0 => ⟨fun h o acc S _ => by rw [partsL]; exact Nat.le_refl _, fun h o acc b _ => by rw [casesL]; exact Nat.le_refl _⟩
  | f + 1 => by
    obtain ⟨ih1, ih2⟩ := cnt_both l f
    refine ⟨fun h o acc S h3 => ?_, fun h o acc b h3 => ?_⟩
    · rw [partsL] at h3 ⊢
      split
      · rename_i hc
        rw [if_pos hc] at h3
        have hl := (ge_parts l f h o _ _).live h3
        have e1 := ih1 _ _ _ _ h3
        rw [cntPs_snoc] at e1
        have e2 : cntP (partG l (fun h b => casesL l f h o [] b) h S).1 + S.1 ≤ (partG l (fun h b => casesL l f h o [] b) h S).2.1 := by
          have hadv := part_adv (cf := fun h b => casesL l f h o [] b) (fun h b => ge_cases l f h o [] b) (h := h) hc.1 hc.2.1 hc.2.2
          rw [cntP_eq]
          unfold partG at hl hadv ⊢
          split at hl
          · rename_i hn
            rw [if_pos hn] at hadv ⊢
            have hw : S.1 + 1 ≤ (wordF l [123] S).1 := by rw [word_yes hn]; exact (ge_word l [] (S.1 + 1, 0)).1
            have g1 := (ge_long l nameB (wordF l [123] S)).1
            unfold holeG at hl hadv ⊢
            simp only at hl hadv ⊢
            split at hl
            · rename_i hs
              rw [if_pos hs]
              have := ih2 h o [] _ hl
              have g2 := ((ge_word l seW (longF l nameB (wordF l [123] S)).2).trans (ge_one l [32] _)).1
              simp only [cntCs, Pt.cs] at this ⊢
              omega
            · rename_i hs
              rw [if_neg hs] at hadv ⊢
              split at hl
              · rename_i hp
                rw [if_pos hp]
                have := ih2 true o [] _ hl
                have g2 := ((ge_word l plW (longF l nameB (wordF l [123] S)).2).trans (ge_one l [32] _)).1
                simp only [cntCs, Pt.cs] at this ⊢
                omega
              · rename_i hp
                rw [if_neg hp] at hadv ⊢
                simp only [cntCs, Pt.cs] at *
                omega
          · rename_i hn
            rw [if_neg hn] at hadv ⊢
            split at hl
            · rename_i hn2
              rw [if_pos hn2] at hadv ⊢
              simp only [cntCs, Pt.cs] at *
              omega
            · rename_i hn2
              rw [if_neg hn2] at hadv ⊢
              simp only [cntCs, Pt.cs] at *
              omega
        omega
      · exact Nat.le_refl _
    · rw [casesL] at h3 ⊢
      split
      · rename_i hc
        rw [if_pos hc] at h3
        have hl0 := (ge_cases l f h o _ _).live h3
        have hl := (ge_one l [32, 125] _).live hl0
        have e1 := ih2 _ _ _ _ h3
        rw [cntCs_snoc, cntC_eq] at e1
        have g1 := (ge_one l [32, 125] (branchG l (fun S => partsL l f h (o + 1) [] S) o b.2).2).1
        have e2 : cntPs (branchG l (fun S => partsL l f h (o + 1) [] S) o b.2).1.kids + b.2.1 ≤ (branchG l (fun S => partsL l f h (o + 1) [] S) o b.2).2.1 := by
          unfold branchG at hl ⊢
          simp only at hl ⊢
          have hl2 := (ge_word l [125] _).live hl
          have := ih1 h (o + 1) [] _ hl2
          have g2 := ((ge_key l b.2).trans ((ge_word l [32] _).trans ((ge_deep l o _).trans (ge_word l [123] _)))).1
          have g3 := (ge_word l [125] (partsL l f h (o + 1) [] (wordF l [123] (deepF l o (wordF l [32] (keyF l b.2).2)))).2).1
          simp only [cntPs, Cs.kids] at this ⊢
          omega
        omega
      · exact Nat.le_refl _
theorem cnt_read {l : List UInt8} (h : (readF l).2.2 = 0) : cntPs (readF l).1 ≤ l.length := by
  have h1 := (cnt_both l (l.length + 1)).1 false 0 [] (0, 0) h
  have h2 := (read_wf l).1
  simp only [cntPs] at h1
  unfold readF at h2 ⊢
  omega
end Go.Proofs.YtdnedbcmgkilaaaGreatDoor

end

/- Rows of cells in memory: what a row holds, what keeps it. -/
section

namespace Go.Proofs.YtdnedbcmgkilaaaGreatDoor
open Go.RowKit

theorem ret_int {k : IntKind} {a b : Int} (h : a = b) : Ending.returned (.int k a) = .returned (.int k b) := by rw [h]
theorem ret_bool {a b : Bool} (h : a = b) : Ending.returned (.bool a) = .returned (.bool b) := by rw [h]

/-- Block b is this row. -/
def Row (w : World) (b : Nat) (t : TypeId) (cs : List Value) : Prop := w.heap[b]? = some (.cells cs.toArray t (0, 0))
theorem Row.cell {w : World} {b : Nat} {t : TypeId} {cs : List Value} (h : Row w b t cs) {i : Nat} {v : Value} (hi : cs[i]? = some v) : w.cell? ⟨b, i, none⟩ = some v := by
  simp only [World.cell?, Row] at *
  simp [h, hi]
theorem Row.thaw {w : World} {b : Nat} {t : TypeId} {cs : List Value} (h : Row w b t cs) (i : Nat) : w.frozen? ⟨b, i, none⟩ = false := by
  simp only [World.frozen?, Row] at *
  simp [h]
theorem Row.set {w : World} {b : Nat} {t : TypeId} {cs : List Value} (h : Row w b t cs) (i : Nat) (v : Value) : Row (w.setCell ⟨b, i, none⟩ v) b t (cs.set i v) := by
  unfold Row at *
  simp [World.setCell, Array.getElem?_modify, h]
theorem Row.keep {w w' : World} {b : Nat} {t : TypeId} {cs : List Value} (h : Row w b t cs) (hk : w'.heap[b]? = w.heap[b]?) : Row w' b t cs := hk.trans h
theorem Row.lt {w : World} {b : Nat} {t : TypeId} {cs : List Value} (h : Row w b t cs) : b < w.heap.size := (Array.getElem?_eq_some_iff.1 h).1
theorem Row.below {w w' : World} {b : Nat} {t : TypeId} {cs : List Value} (h : Row w b t cs) (hb : Below w.heap.size w w') : Row w' b t cs := h.keep (hb.block b h.lt)
theorem row_new (w : World) (cs : Array Value) (t : TypeId) : Row (w.alloc (.cells cs t)) w.heap.size t cs.toList := by
  show (w.heap.push _)[w.heap.size]? = _
  simp
theorem Row.alloc {w : World} {b : Nat} {t : TypeId} {cs : List Value} (h : Row w b t cs) (o : Obj) : Row (w.alloc o) b t cs := h.keep (Below.heap_alloc _ _ _ h.lt)
theorem Row.range {w : World} {b : Nat} {t : TypeId} {cs : List Value} (h : Row w b t cs) : w.rangeAt b 0 cs := fun j v hv => by
  rw [Nat.zero_add]; exact h.cell hv
theorem Row.there {w : World} {b : Nat} {t : TypeId} {cs : List Value} (h : Row w b t cs) (o n : Nat) (hn : o + n ≤ cs.length) : w.there b o n := fun j hj =>
  ⟨by rw [h.cell (List.getElem?_eq_getElem (show o + j < cs.length by omega))]; rfl, h.thaw _⟩

/-- w' is w, but for what block g holds. -/
structure But (g : Nat) (w w' : World) : Prop where
  os : w'.os = w.os
  tape : w'.tape = w.tape
  output : w'.output = w.output
  size : w'.heap.size = w.heap.size
  block : ∀ k, k ≠ g → w'.heap[k]? = w.heap[k]?
theorem But.refl (g : Nat) (w : World) : But g w w := ⟨rfl, rfl, rfl, rfl, fun _ _ => rfl⟩
theorem But.set {g : Nat} {w w' : World} (h : But g w w') (i : Nat) (u : Value) : But g w (w'.setCell ⟨g, i, none⟩ u) :=
  ⟨h.os, h.tape, h.output, by simpa [World.setCell] using h.size, fun k hk => (Below.heap_setCell _ _ _ _ hk).trans (h.block k hk)⟩
theorem But.drew {g : Nat} {w w' : World} (h : But g w w') : But g w w'.drew := ⟨h.os, h.tape, h.output, h.size, h.block⟩
theorem But.drewN {g : Nat} {w w' : World} (h : But g w w') (n : Nat) : But g w (w'.drewN n) := ⟨h.os, h.tape, h.output, h.size, h.block⟩
theorem But.trans {g : Nat} {a b c : World} (h : But g a b) (k : But g b c) : But g a c :=
  ⟨k.os.trans h.os, k.tape.trans h.tape, k.output.trans h.output, k.size.trans h.size, fun i hi => (k.block i hi).trans (h.block i hi)⟩
theorem But.below {g B : Nat} {w w' : World} (h : But g w w') (hg : B ≤ g) : Below B w w' := ⟨h.os, h.tape, h.output, Nat.le_of_eq h.size.symm, fun k hk => h.block k (by omega)⟩
theorem But.row {g b : Nat} {w w' : World} (h : But g w w') {t : TypeId} {cs : List Value} (hr : Row w b t cs) (hb : b ≠ g) : Row w' b t cs := hr.keep (h.block b hb)
theorem but_setCells (g : Nat) : ∀ (vs : List Value) (o : Nat) (w : World), But g w (w.setCells g o vs)
  | [], _, w => But.refl g w
  | v :: r, o, w => by rw [World.setCells]; exact ((But.refl g w).set o v).trans (but_setCells g r (o + 1) _)

/-- w' has the very memory of w. -/
structure Same (w w' : World) : Prop where
  os : w'.os = w.os
  tape : w'.tape = w.tape
  output : w'.output = w.output
  heap : w'.heap = w.heap
theorem Same.refl (w : World) : Same w w := ⟨rfl, rfl, rfl, rfl⟩
theorem Same.drewN {w w' : World} (h : Same w w') (n : Nat) : Same w (w'.drewN n) := ⟨h.os, h.tape, h.output, h.heap⟩
theorem Same.drew {w w' : World} (h : Same w w') : Same w w'.drew := ⟨h.os, h.tape, h.output, h.heap⟩
theorem Same.trans {a b c : World} (h : Same a b) (k : Same b c) : Same a c := ⟨k.os.trans h.os, k.tape.trans h.tape, k.output.trans h.output, k.heap.trans h.heap⟩
theorem Same.row {w w' : World} (h : Same w w') {b : Nat} {t : TypeId} {cs : List Value} (hr : Row w b t cs) : Row w' b t cs := hr.keep (by rw [h.heap])
theorem Same.below {B : Nat} {w w' : World} (h : Same w w') : Below B w w' := ⟨h.os, h.tape, h.output, by rw [h.heap]; exact Nat.le_refl _, fun k _ => by rw [h.heap]⟩
theorem Same.cell {w w' : World} (h : Same w w') (a : Addr) : w'.cell? a = w.cell? a := World.cell?_of_block (by rw [h.heap])
theorem Same.thaw {w w' : World} (h : Same w w') (a : Addr) : w'.frozen? a = w.frozen? a := World.frozen?_of_block (by rw [h.heap])

theorem below1 (w : World) (o : Obj) : Below w.heap.size w (w.alloc o) := (Below.refl _ w).alloc (Nat.le_refl _) o
theorem below2 (w : World) (o1 o2 : Obj) : Below w.heap.size w ((w.alloc o1).alloc o2) := (below1 w o1).alloc (by simp) o2
theorem below3 (w : World) (o1 o2 o3 : Obj) : Below w.heap.size w (((w.alloc o1).alloc o2).alloc o3) := (below2 w o1 o2).alloc (by simp; omega) o3
theorem below_drewN {B : Nat} {a w : World} (h : Below B a w) (n : Nat) : Below B a (w.drewN n) := ⟨h.os, h.tape, h.output, h.size, h.block⟩
theorem below_trans {w w1 w2 : World} (h1 : Below w.heap.size w w1) (h2 : Below w1.heap.size w1 w2) : Below w.heap.size w w2 := h1.trans (h2.mono h1.size)
theorem ownsRow_below {w w' : World} {base : Nat} {e : TypeId} {size : Nat} {v : Value} {n : Nat} {xs : List Value} (h : w.ownsRow base e size v n xs) (hb : Below w.heap.size w w') : w'.ownsRow base e size v n xs := by
  refine ⟨h.1, ?_⟩
  rcases h.2 with h0 | ⟨g, cap, cur, hv, hbs, hh, hr⟩
  · exact .inl h0
  · exact .inr ⟨g, cap, cur, hv, hbs, (hb.block g (Array.getElem?_eq_some_iff.1 hh).1).trans hh, hr⟩
theorem owns_but {w w' : World} {base : Nat} {e : TypeId} {size : Nat} {v : Value} {n : Nat} {xs : List Value} {A : Nat} (h : w.ownsRow base e size v n xs) (hb : But A w w') (hA : A < base) : w'.ownsRow base e size v n xs := by
  refine ⟨h.1, ?_⟩
  rcases h.2 with h0 | ⟨g, cap, cur, hv, hbs, hh, hr⟩
  · exact .inl h0
  · exact .inr ⟨g, cap, cur, hv, hbs, (hb.block g (by omega)).trans hh, hr⟩
theorem owns_form {w : World} {base : Nat} {v : Value} {e : TypeId} {k n : Nat} {xs : List Value} (h : w.ownsRow base e k v n xs) : ∃ a cap, v = .slice a n cap ∧ n ≤ cap ∧ cap ≤ 9223372036854775807 ∧ (0 < n → ∃ g, a = some ⟨g, 0, none⟩) := by
  rcases h.2 with ⟨rfl, rfl⟩ | ⟨g, cap, cur, rfl, -, -, hc, hm, -⟩
  · exact ⟨none, 0, rfl, Nat.le_refl _, by omega, fun h => by omega⟩
  · exact ⟨_, cap, rfl, hc, by unfold maxLen at hm; exact hm, fun _ => ⟨g, rfl⟩⟩
/-- The cells of one item, laid by a literal. -/
theorem cell_new3 (w : World) (x y z : Value) (t : TypeId) : ∀ j v, [x, y, z][j]? = some v → (w.alloc (.cells #[x, y, z] t)).cell? (Addr.add ⟨w.heap.size, 0, none⟩ j) = some v := fun j v hv => by
  rw [Addr.add_mid, Nat.zero_add]
  exact (row_new w #[x, y, z] t).cell hv
theorem cell_n3 (w : World) (x y z : Value) (t : TypeId) {B : Nat} (hB : w.heap.size = B) : ∀ j v, [x, y, z][j]? = some v → (w.alloc (.cells #[x, y, z] t)).cell? (Addr.add ⟨B, 0, none⟩ j) = some v := by
  subst hB; exact cell_new3 w x y z t
theorem own_base {w : World} {base : Nat} {e : TypeId} {k n m cap : Nat} {a : Option Addr} {xs : List Value} (h : w.ownsRow base e k (.slice a m cap) n xs) : ∀ ad, a = some ad → base ≤ ad.block := fun ad had => (h.lt ad.block (by subst had; rfl)).1
/-- All blocks of w but those in X stand in w' as they stood. -/
structure Fr (X : Nat → Prop) (w w' : World) : Prop where
  os : w'.os = w.os
  tape : w'.tape = w.tape
  output : w'.output = w.output
  size : w.heap.size ≤ w'.heap.size
  block : ∀ k, k < w.heap.size → ¬ X k → w'.heap[k]? = w.heap[k]?

section
variable {X Y : Nat → Prop} {a w w' : World}
theorem Fr.refl (X : Nat → Prop) (w : World) : Fr X w w := ⟨rfl, rfl, rfl, Nat.le_refl _, fun _ _ _ => rfl⟩
theorem Fr.trans (h : Fr X a w) (k : Fr X w w') : Fr X a w' :=
  ⟨k.os.trans h.os, k.tape.trans h.tape, k.output.trans h.output, Nat.le_trans h.size k.size, fun i hi hx => (k.block i (Nat.lt_of_lt_of_le hi h.size) hx).trans (h.block i hi hx)⟩
theorem Fr.mono (h : Fr X w w') (hxy : ∀ k, k < w.heap.size → X k → Y k) : Fr Y w w' := ⟨h.os, h.tape, h.output, h.size, fun k hk hy => h.block k hk (fun hx => hy (hxy k hk hx))⟩
theorem Fr.alloc (h : Fr X a w) (o : Obj) : Fr X a (w.alloc o) :=
  h.trans ⟨rfl, rfl, rfl, by simp, fun k hk _ => Below.heap_alloc _ _ _ hk⟩
theorem Fr.setCell (h : Fr X a w) {p : Addr} (hp : a.heap.size ≤ p.block ∨ X p.block) (u : Value) : Fr X a (w.setCell p u) :=
  ⟨h.os, h.tape, h.output, by simpa [World.setCell] using h.size, fun k hk hx => (Below.heap_setCell _ _ _ _ (fun e => by subst e; rcases hp with hp | hp; omega; exact hx hp)).trans (h.block k hk hx)⟩
theorem Fr.drew (h : Fr X a w) : Fr X a w.drew := ⟨h.os, h.tape, h.output, h.size, h.block⟩
theorem Fr.of_below (hb : Below w.heap.size w w') : Fr X w w' := ⟨hb.os, hb.tape, hb.output, hb.size, fun k hk _ => hb.block k hk⟩
theorem Fr.below {B : Nat} (h : Fr (fun k => B ≤ k) w w') (hB : B ≤ w.heap.size) : Below B w w' :=
  ⟨h.os, h.tape, h.output, h.size, fun k hk => h.block k (by omega) (by omega)⟩
theorem Fr.grown (h : Fr X a w) {row : Option Nat} (hg : w.grownBy w' row) (hr : ∀ g, row = some g → a.heap.size ≤ g ∨ X g) : Fr X a w' :=
  ⟨hg.os.trans h.os, hg.tape.trans h.tape, hg.output.trans h.output, Nat.le_trans h.size hg.size, fun k hk hx => (hg.block k (Nat.lt_of_lt_of_le hk h.size) (fun e => by rcases hr k e.symm with h1 | h1; omega; exact hx h1)).trans (h.block k hk hx)⟩
theorem Fr.cell (h : Fr X w w') {p : Addr} (hp : p.block < w.heap.size) (hx : ¬ X p.block) : w'.cell? p = w.cell? p := World.cell?_of_block (h.block _ hp hx)
end

theorem ownsRow_keep {w w' : World} {base : Nat} {e : TypeId} {size : Nat} {v : Value} {n : Nat} {xs : List Value} (h : w.ownsRow base e size v n xs) (hk : ∀ g, v.ownBlock = some g → w'.heap[g]? = w.heap[g]?) : w'.ownsRow base e size v n xs := by
  refine ⟨h.1, ?_⟩
  rcases h.2 with h0 | ⟨g, cap, cur, hv, hb, hh, hr⟩
  · exact .inl h0
  · exact .inr ⟨g, cap, cur, hv, hb, (hk g (by rw [hv]; rfl)).trans hh, hr⟩


theorem Fr.of_same {X : Nat → Prop} {w w' : World} (h : Same w w') : Fr X w w' := ⟨h.os, h.tape, h.output, by rw [h.heap]; exact Nat.le_refl _, fun k _ _ => by rw [h.heap]⟩
theorem Fr.to_below {g : Nat} {W w w' : World} (hb : Below W.heap.size W w) (h : Fr (· = g) w w') (hg : W.heap.size ≤ g) : Below W.heap.size W w' :=
  ⟨h.os.trans hb.os, h.tape.trans hb.tape, h.output.trans hb.output, Nat.le_trans hb.size h.size, fun k hk => (h.block k (Nat.lt_of_lt_of_le hk hb.size) (by omega)).trans (hb.block k hk)⟩

/-- Blocks whose element type is one of these. -/
def Ty (T : List Nat) (w : World) (b : Nat) : Prop := ∃ cs t z, w.heap[b]? = some (.cells cs t z) ∧ t ∈ T
theorem Ty.lt {T : List Nat} {w : World} {b : Nat} (h : Ty T w b) : b < w.heap.size := by
  obtain ⟨cs, t, z, h, -⟩ := h
  exact (Array.getElem?_eq_some_iff.1 h).1
theorem Ty.keep {T : List Nat} {w w' : World} {b : Nat} (h : Ty T w b) (hk : w'.heap[b]? = w.heap[b]?) : Ty T w' b := by
  obtain ⟨cs, t, z, h, ht⟩ := h
  exact ⟨cs, t, z, hk.trans h, ht⟩
theorem Ty.mono {T T' : List Nat} {w : World} {b : Nat} (h : Ty T w b) (hT : ∀ t ∈ T, t ∈ T') : Ty T' w b := by
  obtain ⟨cs, t, z, h, ht⟩ := h
  exact ⟨cs, t, z, h, hT t ht⟩
theorem Ty.ne {T : List Nat} {w : World} {b g : Nat} {cs : Array Value} {t : TypeId} {z : Nat × Nat} (h : Ty T w b) (hg : w.heap[g]? = some (.cells cs t z)) (ht : t ∉ T) : b ≠ g := by
  rintro rfl
  obtain ⟨cs', t', z', h, ht'⟩ := h
  rw [hg] at h
  injection h with h
  injection h with _ h
  subst h
  exact ht ht'
/-- The typed blocks of w stand in w'. -/
def KpT (T : List Nat) (w w' : World) : Prop := ∀ b, Ty T w b → w'.heap[b]? = w.heap[b]?
theorem KpT.of_below {T : List Nat} {w w' : World} (h : Below w.heap.size w w') : KpT T w w' := fun b hb => h.block b hb.lt
theorem KpT.trans {T : List Nat} {a b c : World} (h : KpT T a b) (k : KpT T b c) : KpT T a c := fun x hx => (k x (hx.keep (h x hx))).trans (h x hx)
theorem KpT.of_fr {T : List Nat} {g : Nat} {w w' : World} {cs : Array Value} {t : TypeId} {z : Nat × Nat} (h : Fr (· = g) w w') (hg : w.heap[g]? = some (.cells cs t z)) (ht : t ∉ T) : KpT T w w' := fun b hb => h.block b hb.lt (hb.ne hg ht)
theorem KpT.of_grown {T : List Nat} {w w' : World} {base size n : Nat} {e : TypeId} {v : Value} {xs : List Value} (h : w.grownBy w' v.ownBlock) (ho : w.ownsRow base e size v n xs) (ht : e ∉ T) : KpT T w w' := fun b hb => h.block b hb.lt (fun e => by
  rcases ho.2 with ⟨rfl, -⟩ | ⟨g, cap, cur, rfl, -, hh, -⟩
  · cases e
  · exact hb.ne hh ht (Option.some.inj e))

/-- An element at a place. -/
def At {α : Type} (k : Nat) (C : α → List Value → Prop) (w : World) (b o : Nat) (x : α) : Prop := ∃ cs, cs.length = k ∧ C x cs ∧ ∀ j u, cs[j]? = some u → w.cell? ⟨b, o + j, none⟩ = some u
/-- A slice of such elements, its row being a block of S. -/
def Sl {α : Type} (k : Nat) (C : α → List Value → Prop) (w : World) (S : Nat → Prop) (v : Value) (xs : List α) : Prop :=
  ∃ a cap, v = .slice a xs.length cap ∧ xs.length ≤ cap ∧ cap ≤ 9223372036854775807 ∧ (xs ≠ [] → ∃ b off, a = some ⟨b, off, none⟩ ∧ S b ∧ ∀ (j : Nat) (x : α), xs[j]? = some x → At k C w b (off + j * k) x)
theorem At.keep {α : Type} {k : Nat} {C C' : α → List Value → Prop} {w w' : World} {b o : Nat} {x : α} (h : At k C w b o x) (hk : w'.heap[b]? = w.heap[b]?) (hC : ∀ x cs, C x cs → C' x cs) : At k C' w' b o x := by
  obtain ⟨cs, hl, hx, hc⟩ := h
  exact ⟨cs, hl, hC _ _ hx, fun j u hu => (World.cell?_of_block (a := ⟨b, o + j, none⟩) hk).trans (hc j u hu)⟩
theorem Sl.keep {α : Type} {k : Nat} {C C' : α → List Value → Prop} {w w' : World} {S S' : Nat → Prop} {v : Value} {xs : List α} (h : Sl k C w S v xs) (hk : ∀ b, S b → w'.heap[b]? = w.heap[b]?) (hS : ∀ b, S b → S' b) (hC : ∀ x cs, C x cs → C' x cs) : Sl k C' w' S' v xs := by
  obtain ⟨a, cap, hv, hl, hm, hx⟩ := h
  refine ⟨a, cap, hv, hl, hm, fun hne => ?_⟩
  obtain ⟨b, off, ha, hb, hat⟩ := hx hne
  exact ⟨b, off, ha, hS b hb, fun j x hj => (hat j x hj).keep (hk b hb) hC⟩

/-- The cells of elements, one behind the other. -/
def Cat {α : Type} (k : Nat) (C : α → List Value → Prop) : List α → List Value → Prop
  | [], vs => vs = []
  | x :: r, vs => ∃ cs rest, vs = cs ++ rest ∧ cs.length = k ∧ C x cs ∧ Cat k C r rest
theorem Cat.mono {α : Type} {k : Nat} {C C' : α → List Value → Prop} (hC : ∀ x cs, C x cs → C' x cs) : ∀ {xs : List α} {vs : List Value}, Cat k C xs vs → Cat k C' xs vs
  | [], _, h => h
  | x :: r, vs, h => by
    obtain ⟨cs, rest, hv, hl, hx, hr⟩ := h
    exact ⟨cs, rest, hv, hl, hC _ _ hx, Cat.mono hC hr⟩
theorem Cat.snoc {α : Type} {k : Nat} {C : α → List Value → Prop} {x : α} {cs : List Value} (hl : cs.length = k) (hx : C x cs) : ∀ {xs : List α} {vs : List Value}, Cat k C xs vs → Cat k C (xs ++ [x]) (vs ++ cs)
  | [], vs, h => by
    obtain rfl : vs = [] := h
    exact ⟨cs, [], by simp, hl, hx, rfl⟩
  | y :: r, vs, h => by
    obtain ⟨ds, rest, rfl, hd, hy, hr⟩ := h
    exact ⟨ds, rest ++ cs, by simp, hd, hy, Cat.snoc hl hx hr⟩
theorem Cat.one {α : Type} {k : Nat} {C : α → List Value → Prop} {x : α} {cs : List Value} (hl : cs.length = k) (hx : C x cs) : Cat k C [x] cs := ⟨cs, [], by simp, hl, hx, rfl⟩
theorem Cat.get {α : Type} {k : Nat} {C : α → List Value → Prop} : ∀ {xs : List α} {vs : List Value}, Cat k C xs vs → ∀ (j : Nat) (x : α), xs[j]? = some x → ∃ cs, cs.length = k ∧ C x cs ∧ ∀ i u, cs[i]? = some u → vs[j * k + i]? = some u
  | [], _, _, j, x, hj => by simp at hj
  | y :: r, vs, h, 0, x, hj => by
    obtain ⟨cs, rest, rfl, hl, hx, hr⟩ := h
    obtain rfl : y = x := by simpa using hj
    exact ⟨cs, hl, hx, fun i u hu => by
      rw [Nat.zero_mul, Nat.zero_add, List.getElem?_append_left (by have := (List.getElem?_eq_some_iff.1 hu).1; omega)]; exact hu⟩
  | y :: r, vs, h, j + 1, x, hj => by
    obtain ⟨cs, rest, rfl, hl, hx, hr⟩ := h
    obtain ⟨ds, hd, hdx, hc⟩ := Cat.get hr j x (by simpa using hj)
    refine ⟨ds, hd, hdx, fun i u hu => ?_⟩
    rw [Nat.succ_mul, List.getElem?_append_right (by omega), show j * k + k + i - cs.length = j * k + i by omega]
    exact hc i u hu
theorem owns_cells {w : World} {base k n : Nat} {e : TypeId} {v : Value} {vs : List Value} (h : w.ownsRow base e k v n vs) {b off : Nat} {cap m : Nat} (hv : v = .slice (some ⟨b, off, none⟩) m cap) : off = 0 ∧ (∃ cs z, w.heap[b]? = some (.cells cs e z)) ∧ ∀ i u, vs[i]? = some u → w.cell? ⟨b, i, none⟩ = some u := by
  rcases h.2 with ⟨rfl, h0⟩ | ⟨g, cap', cur, rfl, hb, hh, hc, -, hs, ht⟩
  · cases hv
  · injection hv with hv
    injection hv with hv
    injection hv with h1 h2
    subst h1
    refine ⟨h2.symm, ⟨_, _, hh⟩, fun i u hu => ?_⟩
    have hlt := (List.getElem?_eq_some_iff.1 hu).1
    have := h.1
    rw [← ht, List.getElem?_take, if_pos (by omega), Array.getElem?_toList] at hu
    simp only [World.cell?, hh, hu]
    simp
/-- What was made under way, done. -/
theorem Sl.of_owns {α : Type} {k : Nat} {C : α → List Value → Prop} {w : World} {base : Nat} {e : TypeId} {v : Value} {xs : List α} {vs : List Value} (h : w.ownsRow base e k v xs.length vs) (hc : Cat k C xs vs) {S : Nat → Prop} (hS : ∀ b cs z, w.heap[b]? = some (.cells cs e z) → S b) : Sl k C w S v xs := by
  obtain ⟨a, cap, hv, hl, hm, hx⟩ := owns_form h
  refine ⟨a, cap, hv, hl, hm, fun hne => ?_⟩
  obtain ⟨g, rfl⟩ := hx (List.length_pos_iff.2 hne)
  obtain ⟨-, ⟨cs, z, hh⟩, hcell⟩ := owns_cells h hv
  refine ⟨g, 0, rfl, hS _ _ _ hh, fun j x hj => ?_⟩
  obtain ⟨ds, hd, hdx, hdc⟩ := hc.get j x hj
  exact ⟨ds, hd, hdx, fun i u hu => by rw [Nat.zero_add]; exact hcell _ _ (hdc i u hu)⟩
/-- A row of one element, as a literal lays it. -/
theorem owns_lit (w : World) (cs : Array Value) (e : TypeId) (base n : Nat) (k : Nat) (hs : cs.size = n * k) (hb : base ≤ w.heap.size) (hn : n ≤ 9223372036854775807) : (w.alloc (.cells cs e)).ownsRow base e k (.slice (some ⟨w.heap.size, 0, none⟩) n n) n cs.toList :=
  ⟨by simpa using hs, .inr ⟨w.heap.size, n, cs, rfl, hb, heap_alloc_new w _, Nat.le_refl _, by unfold maxLen; exact hn, hs, by rw [List.take_of_length_le]; simp [hs]⟩⟩
theorem cell_newL (w : World) (cs : Array Value) (t : TypeId) {B : Nat} (hB : w.heap.size = B) : ∀ j v, cs.toList[j]? = some v → (w.alloc (.cells cs t)).cell? (Addr.add ⟨B, 0, none⟩ j) = some v := fun j v hv => by
  subst hB
  rw [Addr.add_mid, Nat.zero_add]
  exact (row_new w cs t).cell hv

theorem info42 : (Tryz.prog.info? 141).map (fun i => (i.zero, i.size, i.bytes)) = some (some (.agg #[.int .i64 0, .string ByteArray.empty, .string ByteArray.empty, .slice none 0 0]), 4, 64) := by kernel_rfl
theorem info44 : (Tryz.prog.info? 185).map (fun i => (i.zero, i.size, i.bytes)) = some (some (.agg #[.string ByteArray.empty, .slice none 0 0]), 2, 40) := by kernel_rfl
abbrev BA := ByteArray

/-- The cells of a part of so many levels. -/
def CP (w : World) (S : Nat → Prop) : Nat → Pt → List Value → Prop
  | 0, _, _ => False
  | n + 1, x, cs => ∃ v, cs = [.int .i64 x.k, .string x.t, .string x.n, v] ∧ Sl 2 (fun (c : Cs) ds => ∃ u, ds = [.string c.key, u] ∧ Sl 4 (CP w S n) w S u c.kids) w S v x.cs
/-- The cells of a case. -/
def CC (w : World) (S : Nat → Prop) (n : Nat) (c : Cs) (ds : List Value) : Prop := ∃ u, ds = [.string c.key, u] ∧ Sl 4 (CP w S n) w S u c.kids
abbrev SlP (w : World) (S : Nat → Prop) (n : Nat) (v : Value) (xs : List Pt) : Prop := Sl 4 (CP w S n) w S v xs
abbrev SlC (w : World) (S : Nat → Prop) (n : Nat) (v : Value) (xs : List Cs) : Prop := Sl 2 (CC w S n) w S v xs
theorem CP.out {w : World} {S : Nat → Prop} {n : Nat} {x : Pt} {cs : List Value} (h : CP w S n x cs) : ∃ m v, n = m + 1 ∧ cs = [.int .i64 x.k, .string x.t, .string x.n, v] ∧ SlC w S m v x.cs := by
  cases n with
  | zero => exact h.elim
  | succ m => obtain ⟨v, h1, h2⟩ := h; exact ⟨m, v, rfl, h1, h2⟩
theorem CP.mk {w : World} {S : Nat → Prop} {n : Nat} {k : Int} {t nm : BA} {cs : List Cs} {v : Value} (h : SlC w S n v cs) : CP w S (n + 1) (.mk k t nm cs) [.int .i64 k, .string t, .string nm, v] := ⟨v, rfl, h⟩
theorem CC.mk {w : World} {S : Nat → Prop} {n : Nat} {key : BA} {kids : List Pt} {v : Value} (h : SlP w S n v kids) : CC w S n (.mk key kids) [.string key, v] := ⟨v, rfl, h⟩
theorem CP.keep {w w' : World} {S S' : Nat → Prop} (hk : ∀ b, S b → w'.heap[b]? = w.heap[b]?) (hS : ∀ b, S b → S' b) : ∀ {n : Nat} {x : Pt} {cs : List Value}, CP w S n x cs → CP w' S' n x cs
  | 0, _, _, h => h.elim
  | n + 1, x, cs, h => by
    obtain ⟨v, h1, h2⟩ := h
    refine ⟨v, h1, Sl.keep h2 hk hS ?_⟩
    rintro c ds ⟨u, hu, hs⟩
    exact ⟨u, hu, Sl.keep hs hk hS (fun _ _ => CP.keep hk hS)⟩
theorem CP.more {w : World} {S : Nat → Prop} : ∀ {n : Nat} {x : Pt} {cs : List Value}, CP w S n x cs → CP w S (n + 1) x cs
  | 0, _, _, h => h.elim
  | n + 1, x, cs, h => by
    obtain ⟨v, h1, h2⟩ := h
    refine ⟨v, h1, Sl.keep h2 (fun _ _ => rfl) (fun _ h => h) ?_⟩
    rintro c ds ⟨u, hu, hs⟩
    exact ⟨u, hu, Sl.keep hs (fun _ _ => rfl) (fun _ h => h) (fun _ _ => CP.more)⟩
theorem CP.le {w : World} {S : Nat → Prop} {n m : Nat} {x : Pt} {cs : List Value} (h : CP w S n x cs) (hnm : n ≤ m) : CP w S m x cs := by
  obtain ⟨d, rfl⟩ := Nat.exists_eq_add_of_le hnm
  induction d with
  | zero => exact h
  | succ d ih => exact CP.more (ih (by omega))
theorem SlP.keep {w w' : World} {S S' : Nat → Prop} {n : Nat} {v : Value} {xs : List Pt} (h : SlP w S n v xs) (hk : ∀ b, S b → w'.heap[b]? = w.heap[b]?) (hS : ∀ b, S b → S' b) : SlP w' S' n v xs := Sl.keep h hk hS (fun _ _ => CP.keep hk hS)
theorem SlP.le {w : World} {S : Nat → Prop} {n m : Nat} {v : Value} {xs : List Pt} (h : SlP w S n v xs) (hnm : n ≤ m) : SlP w S m v xs := Sl.keep h (fun _ _ => rfl) (fun _ h => h) (fun _ _ h => h.le hnm)
theorem CC.keep {w w' : World} {S S' : Nat → Prop} {n : Nat} {c : Cs} {ds : List Value} (h : CC w S n c ds) (hk : ∀ b, S b → w'.heap[b]? = w.heap[b]?) (hS : ∀ b, S b → S' b) : CC w' S' n c ds := by
  obtain ⟨u, hu, h⟩ := h
  exact ⟨u, hu, SlP.keep h hk hS⟩
theorem CC.le {w : World} {S : Nat → Prop} {n m : Nat} {c : Cs} {ds : List Value} (h : CC w S n c ds) (hnm : n ≤ m) : CC w S m c ds := by
  obtain ⟨u, hu, h⟩ := h
  exact ⟨u, hu, SlP.le h hnm⟩
theorem SlC.keep {w w' : World} {S S' : Nat → Prop} {n : Nat} {v : Value} {xs : List Cs} (h : SlC w S n v xs) (hk : ∀ b, S b → w'.heap[b]? = w.heap[b]?) (hS : ∀ b, S b → S' b) : SlC w' S' n v xs := Sl.keep h hk hS (fun _ _ h => h.keep hk hS)
theorem SlC.le {w : World} {S : Nat → Prop} {n m : Nat} {v : Value} {xs : List Cs} (h : SlC w S n v xs) (hnm : n ≤ m) : SlC w S m v xs := Sl.keep h (fun _ _ => rfl) (fun _ h => h) (fun _ _ h => h.le hnm)
theorem Sl.nil {α : Type} (k : Nat) (C : α → List Value → Prop) (w : World) (S : Nat → Prop) : Sl k C w S (.slice none 0 0) [] := ⟨none, 0, rfl, Nat.le_refl _, by omega, fun h => absurd rfl h⟩

/-- Everything that is there. -/
abbrev Old (w : World) (b : Nat) : Prop := b < w.heap.size
/-- All that came behind a place. -/
abbrev Fsh (B : Nat) (w : World) (b : Nat) : Prop := B ≤ b ∧ b < w.heap.size
/-- That, but for the row that is under way. -/
abbrev Oth (B : Nat) (v : Value) (w : World) (b : Nat) : Prop := B ≤ b ∧ b < w.heap.size ∧ v.ownBlock ≠ some b
/-- A row under way, of elements that hold memory of their own. -/
structure Gw {α : Type} (e k : Nat) (C : World → (Nat → Prop) → α → List Value → Prop) (B : Nat) (w : World) (v : Value) (xs : List α) (vs : List Value) : Prop where
  own : w.ownsRow B e k v xs.length vs
  cat : Cat k (C w (Oth B v w)) xs vs
/-- What may be kept. -/
def Kp {α : Type} (C : World → (Nat → Prop) → α → List Value → Prop) : Prop := ∀ {w w' : World} {S S' : Nat → Prop} {x : α} {cs : List Value}, C w S x cs → (∀ b, S b → w'.heap[b]? = w.heap[b]?) → (∀ b, S b → S' b) → C w' S' x cs
abbrev CPn (n : Nat) (w : World) (S : Nat → Prop) (x : Pt) (cs : List Value) : Prop := CP w S n x cs
abbrev CCn (n : Nat) (w : World) (S : Nat → Prop) (x : Cs) (cs : List Value) : Prop := CC w S n x cs
theorem kpP (n : Nat) : Kp (CPn n) := fun h hk hS => CP.keep hk hS h
theorem kpC (n : Nat) : Kp (CCn n) := fun h hk hS => CC.keep h hk hS
section
variable {α : Type} {e k : Nat} {C : World → (Nat → Prop) → α → List Value → Prop} {B : Nat} {w w' : World} {v : Value} {xs : List α} {vs : List Value}
theorem Gw.nil (e k : Nat) (C : World → (Nat → Prop) → α → List Value → Prop) (B : Nat) (w : World) : Gw e k C B w (.slice none 0 0) [] [] := ⟨World.ownsRow_nil _ _ _ _, rfl⟩
theorem Gw.fr (h : Gw e k C B w v xs vs) (hC : Kp C) {X : Nat → Prop} (hf : Fr X w w') (hX : ∀ b, B ≤ b → b < w.heap.size → ¬ X b) : Gw e k C B w' v xs vs :=
  ⟨ownsRow_keep h.own (fun g hg => hf.block g (h.own.lt g hg).2 (hX g (h.own.lt g hg).1 (h.own.lt g hg).2)), h.cat.mono (fun _ _ hx => hC hx (fun b hb => hf.block b hb.2.1 (hX b hb.1 hb.2.1)) (fun _ hb => ⟨hb.1, Nat.lt_of_lt_of_le hb.2.1 hf.size, hb.2.2⟩))⟩
theorem Gw.done (h : Gw e k C B w v xs vs) (hC : Kp C) : Sl k (C w (Fsh B w)) w (Fsh B w) v xs := by
  have hown := h.own
  obtain ⟨a, cap, hv, hl, hm, hx⟩ := owns_form hown
  refine ⟨a, cap, hv, hl, hm, fun hne => ?_⟩
  obtain ⟨g, rfl⟩ := hx (List.length_pos_iff.2 hne)
  obtain ⟨-, -, hcell⟩ := owns_cells hown hv
  have hlt := hown.lt g (by rw [hv]; rfl)
  refine ⟨g, 0, rfl, ⟨hlt.1, hlt.2⟩, fun j x hj => ?_⟩
  obtain ⟨ds, hd, hdx, hdc⟩ := h.cat.get j x hj
  exact ⟨ds, hd, hC hdx (fun _ _ => rfl) (fun b hb => ⟨hb.1, hb.2.1⟩), fun i u hu => by rw [Nat.zero_add]; exact hcell _ _ (hdc i u hu)⟩
/-- One more: cells cs that were laid in a block o behind w. -/
theorem Gw.push {w9 : World} {o : Obj} {x : α} {cs : List Value} {g c n : Nat} {B2 : Nat} (h : Gw e k C B w v xs vs) (hC : Kp C) (hn : n = xs.length) (hx : C w (Fsh B2 w) x cs) (hB : B ≤ B2) (hv : ∀ b, v.ownBlock = some b → b < B2) (hk : cs.length = k)
    (hg : (w.alloc o).grownBy w9 v.ownBlock) (hown : w9.ownsRow B e k (.slice (some ⟨g, 0, none⟩) (n + 1) c) (n + 1) (vs ++ cs)) (hgl : v.ownBlock = some g ∨ w.heap.size ≤ g) :
    Gw e k C B w9 (.slice (some ⟨g, 0, none⟩) (n + 1) c) (xs ++ [x]) (vs ++ cs) := by
  have hsz : w.heap.size ≤ w9.heap.size := by have := hg.size; rw [World.size_alloc] at this; omega
  have hblk : ∀ b, b < w.heap.size → v.ownBlock ≠ some b → w9.heap[b]? = w.heap[b]? := fun b hb hne =>
    (hg.block b (by rw [World.size_alloc]; omega) (fun e => hne e.symm)).trans (Below.heap_alloc _ _ _ hb)
  have hne : ∀ b, b < w.heap.size → v.ownBlock ≠ some b → (Value.slice (some ⟨g, 0, none⟩) (n + 1) c).ownBlock ≠ some b := fun b hb hq e => by
    have e2 : g = b := Option.some.inj e
    subst e2
    rcases hgl with z | z
    · exact hq z
    · omega
  refine ⟨by rw [List.length_append, ← hn]; exact hown, Cat.snoc hk ?_ (h.cat.mono (fun _ _ hy => hC hy (fun b hb => hblk b hb.2.1 hb.2.2) (fun b hb => ⟨hb.1, by omega, hne b hb.2.1 hb.2.2⟩)))⟩
  have hq : ∀ b, Fsh B2 w b → v.ownBlock ≠ some b := fun b hb e => by have := hv b e; omega
  exact hC hx (fun b hb => hblk b hb.2 (hq b hb)) (fun b hb => ⟨by omega, by omega, hne b hb.2 (hq b hb)⟩)
end
theorem Gw.leP {n m : Nat} {B : Nat} {w : World} {v : Value} {xs : List Pt} {vs : List Value} (h : Gw 141 4 (CPn n) B w v xs vs) (hnm : n ≤ m) : Gw 141 4 (CPn m) B w v xs vs := ⟨h.own, h.cat.mono (fun _ _ hx => CP.le hx hnm)⟩
theorem Gw.leC {n m : Nat} {B : Nat} {w : World} {v : Value} {xs : List Cs} {vs : List Value} (h : Gw 185 2 (CCn n) B w v xs vs) (hnm : n ≤ m) : Gw 185 2 (CCn m) B w v xs vs := ⟨h.own, h.cat.mono (fun _ _ hx => CC.le hx hnm)⟩
theorem get_of (s : BA) (k : Nat) (h : k < s.size) : s.data.toList[k]? = some s[k] := by rw [Array.getElem?_toList, Array.getElem?_eq_getElem (show k < s.data.size from h)]; rfl
theorem get_no (s : BA) (k : Nat) (h : ¬ k < s.size) : s.data.toList[k]? = none := by rw [List.getElem?_eq_none]; simp; omega
theorem len_list (s : BA) : s.data.toList.length = s.size := by simp
theorem extract01 (c : UInt8) (r : List UInt8) : ByteArray.extract ⟨(c :: r).toArray⟩ 0 1 = ⟨#[c]⟩ := by
  apply ByteArray.ext
  simp [ByteArray.data_extract]
theorem size_cons (c : UInt8) (r : List UInt8) : ByteArray.size ⟨(c :: r).toArray⟩ = r.length + 1 := by simp [ByteArray.size]
theorem drop_at {l : List UInt8} {k : Nat} {c : UInt8} (h : l[k]? = some c) : l.drop k = c :: l.drop (k + 1) := by
  obtain ⟨hi, rfl⟩ := List.getElem?_eq_some_iff.1 h
  exact List.drop_eq_getElem_cons hi
theorem extract_one (t : BA) (k : Nat) (h : k < t.size) : (ByteArray.extract t k (k + 1)).data.toList = [t[k]] := by
  have h1 := get_of t k h
  have h2 : (ByteArray.extract t k (k + 1)).data.toList = (t.data.toList.drop k).take (k + 1 - k) := by simp [ByteArray.data_extract]
  rw [h2, show k + 1 - k = 1 by omega, List.take_one, List.head?_drop, h1]; rfl
end Go.Proofs.YtdnedbcmgkilaaaGreatDoor

end

/- The contracts of the library that this proof uses, laid at this program by the kit's own shelf, in plain words. -/
section

namespace Go.Proofs
open Go.Shelf
def Tryz.lays170_ren : Go.Shelf.Ren := ⟨fun | 170 => 60 | n => n, fun | 70 => 80 | 3 => 3 | 0 => 0 | 72 => 83 | 37 => 81 | 5 => 5 | n => n, fun | n => n⟩
theorem Tryz.lays170 : Go.Proofs.Lays.n170 Tryz.prog Tryz.lays170_ren := {
  mixed := by kernel_rfl
  f170 := Tryz.func60.trans (congrArg some (by kernel_rfl))
  t0 := Tryz.underlying0
  a0 := Tryz.isAgg0
  z0 := Tryz.sizeOf0
  v0 := Tryz.zeroValue0
  t3 := Tryz.underlying3
  a3 := Tryz.isAgg3
  z3 := Tryz.sizeOf3
  v3 := Tryz.zeroValue3
  t37 := Tryz.underlying81
  a37 := Tryz.isAgg81
  z37 := Tryz.sizeOf81
  v37 := Tryz.zeroValue81
  t70 := Tryz.underlying80
  a70 := Tryz.isAgg80
  z70 := Tryz.sizeOf80
  v70 := Tryz.zeroValue80
  t72 := Tryz.underlying83
  a72 := Tryz.isAgg83
  z72 := Tryz.sizeOf83
  v72 := Tryz.zeroValue83 }
def Tryz.lays169_ren : Go.Shelf.Ren := ⟨fun | 169 => 65 | n => n, fun | 70 => 80 | 9 => 9 | 0 => 0 | 72 => 83 | 37 => 81 | 127 => 129 | 3 => 3 | 5 => 5 | n => n, fun | n => n⟩
theorem Tryz.lays169 : Go.Proofs.Lays.n169 Tryz.prog Tryz.lays169_ren := {
  mixed := by kernel_rfl
  f169 := Tryz.func65.trans (congrArg some (by kernel_rfl))
  t0 := Tryz.underlying0
  a0 := Tryz.isAgg0
  z0 := Tryz.sizeOf0
  v0 := Tryz.zeroValue0
  t3 := Tryz.underlying3
  a3 := Tryz.isAgg3
  z3 := Tryz.sizeOf3
  v3 := Tryz.zeroValue3
  t9 := Tryz.underlying9
  a9 := Tryz.isAgg9
  z9 := Tryz.sizeOf9
  v9 := Tryz.zeroValue9
  t37 := Tryz.underlying81
  a37 := Tryz.isAgg81
  z37 := Tryz.sizeOf81
  v37 := Tryz.zeroValue81
  t70 := Tryz.underlying80
  a70 := Tryz.isAgg80
  z70 := Tryz.sizeOf80
  v70 := Tryz.zeroValue80
  t72 := Tryz.underlying83
  a72 := Tryz.isAgg83
  z72 := Tryz.sizeOf83
  v72 := Tryz.zeroValue83
  t127 := Tryz.underlying129
  a127 := Tryz.isAgg129
  z127 := Tryz.sizeOf129
  v127 := Tryz.zeroValue129 }
theorem Tryz.Builder_Extra_169 : Builder.Extra Tryz.prog Tryz.lays169_ren := {
  sizeBuilder := by kernel_rfl
  liesBuilder := by kernel_rfl
  t5 := Tryz.underlying5
  a5 := Tryz.isAgg5
  z5 := Tryz.sizeOf5
  v5 := Tryz.zeroValue5
  infoByte := by kernel_rfl
  cellsByte := by kernel_rfl
  sizeByte := by kernel_rfl
  neB5 := by decide }
def Tryz.lays156_ren : Go.Shelf.Ren := ⟨fun | 156 => 254 | 165 => 259 | 166 => 61 | 169 => 65 | 240 => 98 | 241 => 262 | 276 => 143 | 277 => 263 | n => n, fun | 31 => 67 | 9 => 9 | 3 => 3 | 4 => 4 | 0 => 0 | 20 => 20 | 72 => 83 | 76 => 87 | 70 => 80 | 37 => 81 | 75 => 86 | 127 => 129 | 164 => 168 | 5 => 5 | 80 => 93 | n => n, fun | n => n⟩
theorem Tryz.lays156 : Go.Proofs.Lays.n156 Tryz.prog Tryz.lays156_ren := {
  mixed := by kernel_rfl
  f156 := Tryz.func254.trans (congrArg some (by kernel_rfl))
  f165 := Tryz.func259.trans (congrArg some (by kernel_rfl))
  f166 := Tryz.func61.trans (congrArg some (by kernel_rfl))
  f169 := Tryz.func65.trans (congrArg some (by kernel_rfl))
  f240 := Tryz.func98.trans (congrArg some (by kernel_rfl))
  f241 := Tryz.func262.trans (congrArg some (by kernel_rfl))
  f276 := Tryz.func143.trans (congrArg some (by kernel_rfl))
  f277 := Tryz.func263.trans (congrArg some (by kernel_rfl))
  t0 := Tryz.underlying0
  a0 := Tryz.isAgg0
  z0 := Tryz.sizeOf0
  v0 := Tryz.zeroValue0
  t3 := Tryz.underlying3
  a3 := Tryz.isAgg3
  z3 := Tryz.sizeOf3
  v3 := Tryz.zeroValue3
  t4 := Tryz.underlying4
  a4 := Tryz.isAgg4
  z4 := Tryz.sizeOf4
  v4 := Tryz.zeroValue4
  t9 := Tryz.underlying9
  a9 := Tryz.isAgg9
  z9 := Tryz.sizeOf9
  v9 := Tryz.zeroValue9
  t20 := Tryz.underlying20
  a20 := Tryz.isAgg20
  z20 := Tryz.sizeOf20
  v20 := Tryz.zeroValue20
  t31 := Tryz.underlying67
  a31 := Tryz.isAgg67
  z31 := Tryz.sizeOf67
  v31 := Tryz.zeroValue67
  t37 := Tryz.underlying81
  a37 := Tryz.isAgg81
  z37 := Tryz.sizeOf81
  v37 := Tryz.zeroValue81
  t70 := Tryz.underlying80
  a70 := Tryz.isAgg80
  z70 := Tryz.sizeOf80
  v70 := Tryz.zeroValue80
  t72 := Tryz.underlying83
  a72 := Tryz.isAgg83
  z72 := Tryz.sizeOf83
  v72 := Tryz.zeroValue83
  t75 := Tryz.underlying86
  a75 := Tryz.isAgg86
  z75 := Tryz.sizeOf86
  v75 := Tryz.zeroValue86
  t76 := Tryz.underlying87
  a76 := Tryz.isAgg87
  z76 := Tryz.sizeOf87
  v76 := Tryz.zeroValue87
  t127 := Tryz.underlying129
  a127 := Tryz.isAgg129
  z127 := Tryz.sizeOf129
  v127 := Tryz.zeroValue129
  t164 := Tryz.underlying168
  a164 := Tryz.isAgg168
  z164 := Tryz.sizeOf168
  v164 := Tryz.zeroValue168 }
theorem Tryz.Builder_Extra_156 : Builder.Extra Tryz.prog Tryz.lays156_ren := {
  sizeBuilder := by kernel_rfl
  liesBuilder := by kernel_rfl
  t5 := Tryz.underlying5
  a5 := Tryz.isAgg5
  z5 := Tryz.sizeOf5
  v5 := Tryz.zeroValue5
  infoByte := by kernel_rfl
  cellsByte := by kernel_rfl
  sizeByte := by kernel_rfl
  neB5 := by decide }
open Go.RowKit in
/-- No element: the empty string; the world is as it was. (Whatever the slice's address and capacity: a nil slice too.) (LAID: no walk: one application.) -/
theorem Tryz.strings_Join_none (a : Option Addr) (c : Nat) (sep : ByteArray) (w : World) :
    Calls Tryz.prog 254 #[.slice a 0 c, .string sep] w fun e w' => e = .returned (.string ⟨#[]⟩) ∧ w' = w := Any.strings_Join_none Tryz.lays156 Tryz.Builder_Extra_156 a c sep w
open Go.RowKit in
/-- strings.Join: "Join concatenates the elements of its first argument to create a single string. The separator string sep is placed between elements in the resulting string.": HOWEVER MANY ELEMENTS. Below the heap's end the world is as it was. (LAID: no walk: one application.) -/
theorem Tryz.strings_Join (bk o c : Nat) (xs : List ByteArray) (sep : ByteArray) (w : World) (hcells : ∀ (j : Nat) x, xs[j]? = some x → w.cell? ⟨bk, o + j, none⟩ = some (.string x)) (hbk : bk < w.heap.size) (hN : xs.length ≤ 140737488355328) (hcap : xs.length ≤ c) (hlen : (Lib.join (xs.map (·.data.toList)) sep.data.toList).length ≤ 140737488355328) :
    Calls Tryz.prog 254 #[.slice (some ⟨bk, o, none⟩) xs.length c, .string sep] w fun e w' => e = .returned (.string ⟨(Lib.join (xs.map (·.data.toList)) sep.data.toList).toArray⟩) ∧ Below w.heap.size w w' := Any.strings_Join Tryz.lays156 Tryz.Builder_Extra_156 bk o c xs sep w hcells hbk hN hcap hlen
open Go.RowKit in
/-- (*strings.Builder).Len: "Len returns the number of accumulated bytes; b.Len() == len(b.String()).": the world is as it was. (THE FORM '_f': 'Lib.IsBuilderF'.) (LAID: no walk: one application.) -/
theorem Tryz.Builder_Len_f (B b : Nat) (bs : List Value) (w : World) (h : Lib.IsBuilderF 83 5 B b bs w) :
    Calls Tryz.prog 60 #[.pointer (some ⟨b, 0, none⟩)] w fun e w' => e = .returned (.int .i64 bs.length) ∧ w' = w := Any.Builder_Len_f Tryz.lays170 B b bs w h
open Go.RowKit in
/-- (*strings.Builder).String: "String returns the accumulated string.": WHATEVER THE BUILDER HOLDS; THE FORM '_k': OVER 'Lib.IsBuilderF' (a builder that 'String()' may have read), AND WITH THE FRAME THAT REACHES ABOVE THE BUILDER: 'Lib.OthersKept': every block that is not b and is no row of uint8's stands as it stood: the iterator of a range among them. (LAID: no walk: one application.) -/
theorem Tryz.Builder_String_any_k (B b : Nat) (l : List UInt8) (w : World) (h : Lib.IsBuilderF 83 5 B b (Lib.byteCells l) w) (hBw : B ≤ w.heap.size) :
    Calls Tryz.prog 65 #[.pointer (some ⟨b, 0, none⟩)] w fun e w' => e = .returned (.string ⟨l.toArray⟩) ∧ (Lib.IsBuilderF 83 5 B b (Lib.byteCells l) w' ∧ Below B w w' ∧ Lib.OthersKept 5 (some b) w w') := Any.Builder_String_any_k Tryz.lays169 Tryz.Builder_Extra_169 B b l w h hBw
def Tryz.laysM171_ren : Go.Shelf.Ren := ⟨fun | 171 => 64 | 243 => 100 | 246 => 99 | 283 => 144 | 284 => 145 | 285 => 146 | 286 => 147 | 129 => 181 | 317 => 180 | 318 => 182 | 319 => 183 | 320 => 184 | 337 => 210 | 338 => 211 | n => n, fun | 3 => 3 | 9 => 9 | 2 => 2 | 4 => 4 | 171 => 170 | 0 => 0 | 53 => 131 | 37 => 81 | 5 => 5 | 173 => 173 | 212 => 198 | 51 => 178 | 20 => 20 | 213 => 199 | 46 => 181 | 232 => 233 | 233 => 234 | n => n, fun | 17 => 1 | 18 => 2 | 19 => 3 | n => n⟩
theorem Tryz.laysM171 : Go.Proofs.LaysM.n171 Tryz.prog Tryz.laysM171_ren := {
  mixed := by kernel_rfl
  f129 := Tryz.func181.trans (congrArg some (by kernel_rfl))
  f171 := Tryz.func64.trans (congrArg some (by kernel_rfl))
  f243 := Tryz.func100.trans (congrArg some (by kernel_rfl))
  f246 := Tryz.func99.trans (congrArg some (by kernel_rfl))
  f283 := Tryz.func144.trans (congrArg some (by kernel_rfl))
  f284 := Tryz.func145.trans (congrArg some (by kernel_rfl))
  f285 := Tryz.func146.trans (congrArg some (by kernel_rfl))
  f286 := Tryz.func147.trans (congrArg some (by kernel_rfl))
  f317 := Tryz.func180.trans (congrArg some (by kernel_rfl))
  f318 := Tryz.func182.trans (congrArg some (by kernel_rfl))
  f319 := Tryz.func183.trans (congrArg some (by kernel_rfl))
  f320 := Tryz.func184.trans (congrArg some (by kernel_rfl))
  f337 := Tryz.func210.trans (congrArg some (by kernel_rfl))
  f338 := Tryz.func211.trans (congrArg some (by kernel_rfl))
  t0 := Tryz.underlying0
  a0 := Tryz.isAgg0
  z0 := Tryz.sizeOf0
  v0 := Tryz.zeroValue0
  t2 := Tryz.underlying2
  a2 := Tryz.isAgg2
  z2 := Tryz.sizeOf2
  v2 := Tryz.zeroValue2
  t3 := Tryz.underlying3
  a3 := Tryz.isAgg3
  z3 := Tryz.sizeOf3
  v3 := Tryz.zeroValue3
  t4 := Tryz.underlying4
  a4 := Tryz.isAgg4
  z4 := Tryz.sizeOf4
  v4 := Tryz.zeroValue4
  t5 := Tryz.underlying5
  a5 := Tryz.isAgg5
  z5 := Tryz.sizeOf5
  v5 := Tryz.zeroValue5
  t9 := Tryz.underlying9
  a9 := Tryz.isAgg9
  z9 := Tryz.sizeOf9
  v9 := Tryz.zeroValue9
  t20 := Tryz.underlying20
  a20 := Tryz.isAgg20
  z20 := Tryz.sizeOf20
  v20 := Tryz.zeroValue20
  t37 := Tryz.underlying81
  a37 := Tryz.isAgg81
  z37 := Tryz.sizeOf81
  v37 := Tryz.zeroValue81
  t46 := Tryz.underlying181
  a46 := Tryz.isAgg181
  z46 := Tryz.sizeOf181
  v46 := Tryz.zeroValue181
  t51 := Tryz.underlying178
  a51 := Tryz.isAgg178
  z51 := Tryz.sizeOf178
  v51 := Tryz.zeroValue178
  t53 := Tryz.underlying131
  a53 := Tryz.isAgg131
  z53 := Tryz.sizeOf131
  v53 := Tryz.zeroValue131
  t171 := Tryz.underlying170
  a171 := Tryz.isAgg170
  z171 := Tryz.sizeOf170
  v171 := Tryz.zeroValue170
  t173 := Tryz.underlying173
  a173 := Tryz.isAgg173
  z173 := Tryz.sizeOf173
  v173 := Tryz.zeroValue173
  t212 := Tryz.underlying198
  a212 := Tryz.isAgg198
  z212 := Tryz.sizeOf198
  v212 := Tryz.zeroValue198
  t213 := Tryz.underlying199
  a213 := Tryz.isAgg199
  z213 := Tryz.sizeOf199
  t232 := Tryz.underlying233
  a232 := Tryz.isAgg233
  z232 := Tryz.sizeOf233
  v232 := Tryz.zeroValue233
  t233 := Tryz.underlying234
  a233 := Tryz.isAgg234
  z233 := Tryz.sizeOf234
  v233 := Tryz.zeroValue234
  g17 := by kernel_rfl
  g18 := by kernel_rfl
  g19 := by kernel_rfl
  i0 := by kernel_rfl
  i2 := by kernel_rfl
  i3 := by kernel_rfl
  i4 := by kernel_rfl
  i5 := by kernel_rfl
  i9 := by kernel_rfl
  i20 := by kernel_rfl
  i37 := by kernel_rfl
  i46 := by kernel_rfl
  i51 := by kernel_rfl
  i53 := by kernel_rfl
  i171 := by kernel_rfl
  i173 := by kernel_rfl
  i212 := by kernel_rfl
  i232 := by kernel_rfl
  i233 := by kernel_rfl
  m17 := by kernel_rfl
  m18 := by kernel_rfl
  m19 := by kernel_rfl }
open Go.RowKit Go.Sort Go.Lib in
/-- strconv.Itoa: "Itoa is equivalent to FormatInt(int64(i), 10).": i's DECIMAL NUMERAL ('Lib.itoa': a '-' where i is negative, then the digits), FOR EVERY int. The world behind the call: the world before it, new blocks behind the heap (the library's 'var a [24]byte'), draws. (LAID: no walk: one application.) -/
theorem Tryz.strconv_Itoa (n : Int) (h0 : -9223372036854775808 ≤ n) (h1 : n ≤ 9223372036854775807) (w : World) (htab : Lib.TabIs Tryz.prog w "internal/strconv.uint64pow10" .u64 Lib.pow10Tab) :
    Calls Tryz.prog 64 #[.int .i64 n] w fun e w' => e = .returned (.string ⟨(Lib.itoa n).toArray⟩) ∧ ∃ k os, w' = grow (w.drewN k) os := Any.strconv_Itoa Tryz.laysM171 n h0 h1 w htab
def Tryz.laysM173_ren : Go.Shelf.Ren := ⟨fun | 173 => 63 | 246 => 99 | 283 => 144 | 284 => 145 | 285 => 146 | 286 => 147 | 129 => 181 | 317 => 180 | 318 => 182 | 319 => 183 | 320 => 184 | 337 => 210 | 338 => 211 | n => n, fun | 2 => 2 | 3 => 3 | 9 => 9 | 4 => 4 | 171 => 170 | 0 => 0 | 53 => 131 | 37 => 81 | 5 => 5 | 173 => 173 | 212 => 198 | 51 => 178 | 20 => 20 | 213 => 199 | 46 => 181 | 232 => 233 | 233 => 234 | n => n, fun | 17 => 1 | 18 => 2 | 19 => 3 | n => n⟩
theorem Tryz.laysM173 : Go.Proofs.LaysM.n173 Tryz.prog Tryz.laysM173_ren := {
  mixed := by kernel_rfl
  f129 := Tryz.func181.trans (congrArg some (by kernel_rfl))
  f173 := Tryz.func63.trans (congrArg some (by kernel_rfl))
  f246 := Tryz.func99.trans (congrArg some (by kernel_rfl))
  f283 := Tryz.func144.trans (congrArg some (by kernel_rfl))
  f284 := Tryz.func145.trans (congrArg some (by kernel_rfl))
  f285 := Tryz.func146.trans (congrArg some (by kernel_rfl))
  f286 := Tryz.func147.trans (congrArg some (by kernel_rfl))
  f317 := Tryz.func180.trans (congrArg some (by kernel_rfl))
  f318 := Tryz.func182.trans (congrArg some (by kernel_rfl))
  f319 := Tryz.func183.trans (congrArg some (by kernel_rfl))
  f320 := Tryz.func184.trans (congrArg some (by kernel_rfl))
  f337 := Tryz.func210.trans (congrArg some (by kernel_rfl))
  f338 := Tryz.func211.trans (congrArg some (by kernel_rfl))
  t0 := Tryz.underlying0
  a0 := Tryz.isAgg0
  z0 := Tryz.sizeOf0
  v0 := Tryz.zeroValue0
  t2 := Tryz.underlying2
  a2 := Tryz.isAgg2
  z2 := Tryz.sizeOf2
  v2 := Tryz.zeroValue2
  t3 := Tryz.underlying3
  a3 := Tryz.isAgg3
  z3 := Tryz.sizeOf3
  v3 := Tryz.zeroValue3
  t4 := Tryz.underlying4
  a4 := Tryz.isAgg4
  z4 := Tryz.sizeOf4
  v4 := Tryz.zeroValue4
  t5 := Tryz.underlying5
  a5 := Tryz.isAgg5
  z5 := Tryz.sizeOf5
  v5 := Tryz.zeroValue5
  t9 := Tryz.underlying9
  a9 := Tryz.isAgg9
  z9 := Tryz.sizeOf9
  v9 := Tryz.zeroValue9
  t20 := Tryz.underlying20
  a20 := Tryz.isAgg20
  z20 := Tryz.sizeOf20
  v20 := Tryz.zeroValue20
  t37 := Tryz.underlying81
  a37 := Tryz.isAgg81
  z37 := Tryz.sizeOf81
  v37 := Tryz.zeroValue81
  t46 := Tryz.underlying181
  a46 := Tryz.isAgg181
  z46 := Tryz.sizeOf181
  v46 := Tryz.zeroValue181
  t51 := Tryz.underlying178
  a51 := Tryz.isAgg178
  z51 := Tryz.sizeOf178
  v51 := Tryz.zeroValue178
  t53 := Tryz.underlying131
  a53 := Tryz.isAgg131
  z53 := Tryz.sizeOf131
  v53 := Tryz.zeroValue131
  t171 := Tryz.underlying170
  a171 := Tryz.isAgg170
  z171 := Tryz.sizeOf170
  v171 := Tryz.zeroValue170
  t173 := Tryz.underlying173
  a173 := Tryz.isAgg173
  z173 := Tryz.sizeOf173
  v173 := Tryz.zeroValue173
  t212 := Tryz.underlying198
  a212 := Tryz.isAgg198
  z212 := Tryz.sizeOf198
  v212 := Tryz.zeroValue198
  t213 := Tryz.underlying199
  a213 := Tryz.isAgg199
  z213 := Tryz.sizeOf199
  t232 := Tryz.underlying233
  a232 := Tryz.isAgg233
  z232 := Tryz.sizeOf233
  v232 := Tryz.zeroValue233
  t233 := Tryz.underlying234
  a233 := Tryz.isAgg234
  z233 := Tryz.sizeOf234
  v233 := Tryz.zeroValue234
  g17 := by kernel_rfl
  g18 := by kernel_rfl
  g19 := by kernel_rfl
  i0 := by kernel_rfl
  i2 := by kernel_rfl
  i3 := by kernel_rfl
  i4 := by kernel_rfl
  i5 := by kernel_rfl
  i9 := by kernel_rfl
  i20 := by kernel_rfl
  i37 := by kernel_rfl
  i46 := by kernel_rfl
  i51 := by kernel_rfl
  i53 := by kernel_rfl
  i171 := by kernel_rfl
  i173 := by kernel_rfl
  i212 := by kernel_rfl
  i232 := by kernel_rfl
  i233 := by kernel_rfl
  m17 := by kernel_rfl
  m18 := by kernel_rfl
  m19 := by kernel_rfl }
open Go.RowKit Go.Sort Go.Lib in
/-- strconv.FormatInt: "FormatInt returns the string representation of i in the given base": AT BASE 10: i's decimal numeral, for every int64. (LAID: no walk: one application.) -/
theorem Tryz.strconv_FormatInt_10 (n : Int) (h0 : -9223372036854775808 ≤ n) (h1 : n ≤ 9223372036854775807) (w : World) (htab : Lib.TabIs Tryz.prog w "internal/strconv.uint64pow10" .u64 Lib.pow10Tab) :
    Calls Tryz.prog 63 #[.int .i64 n, .int .i64 10] w fun e w' => e = .returned (.string ⟨(Lib.itoa n).toArray⟩) ∧ ∃ k os, w' = grow (w.drewN k) os := Any.strconv_FormatInt_10 Tryz.laysM173 n h0 h1 w htab
def Tryz.laysC172_ren : Go.Shelf.Ren := ⟨fun | 172 => 151 | 244 => 188 | 245 => 187 | 247 => 186 | 279 => 213 | 280 => 214 | 281 => 215 | 282 => 216 | 287 => 212 | 316 => 230 | 171 => 64 | 205 => 231 | 321 => 228 | 322 => 229 | 243 => 100 | 246 => 99 | 283 => 144 | 284 => 145 | 285 => 146 | 286 => 147 | 129 => 181 | 317 => 180 | 318 => 182 | 319 => 183 | 320 => 184 | 337 => 210 | 338 => 211 | n => n, fun | 9 => 9 | 3 => 3 | 75 => 86 | 76 => 87 | 4 => 4 | 5 => 5 | 167 => 220 | 37 => 81 | 0 => 0 | 85 => 176 | 2 => 2 | 168 => 223 | 53 => 131 | 175 => 221 | 46 => 181 | 210 => 237 | 127 => 129 | 145 => 253 | 143 => 251 | 21 => 21 | 171 => 170 | 173 => 173 | 212 => 198 | 51 => 178 | 20 => 20 | 213 => 199 | 232 => 233 | 233 => 234 | 80 => 93 | n => n, fun | 15 => 4 | 16 => 5 | 17 => 1 | 18 => 2 | 19 => 3 | n => n⟩
theorem Tryz.laysC172 : Go.Proofs.LaysC.n172 Tryz.prog Tryz.laysC172_ren := {
  mixed := by kernel_rfl
  f129 := Tryz.func181.trans (congrArg some (by kernel_rfl))
  f171 := Tryz.func64.trans (congrArg some (by kernel_rfl))
  f172 := Tryz.func151.trans (congrArg some (by kernel_rfl))
  f205 := Tryz.func231.trans (congrArg some (by kernel_rfl))
  f243 := Tryz.func100.trans (congrArg some (by kernel_rfl))
  f244 := Tryz.func188.trans (congrArg some (by kernel_rfl))
  f245 := Tryz.func187.trans (congrArg some (by kernel_rfl))
  f246 := Tryz.func99.trans (congrArg some (by kernel_rfl))
  f247 := Tryz.func186.trans (congrArg some (by kernel_rfl))
  f279 := Tryz.func213.trans (congrArg some (by kernel_rfl))
  f280 := Tryz.func214.trans (congrArg some (by kernel_rfl))
  f281 := Tryz.func215.trans (congrArg some (by kernel_rfl))
  f282 := Tryz.func216.trans (congrArg some (by kernel_rfl))
  f283 := Tryz.func144.trans (congrArg some (by kernel_rfl))
  f284 := Tryz.func145.trans (congrArg some (by kernel_rfl))
  f285 := Tryz.func146.trans (congrArg some (by kernel_rfl))
  f286 := Tryz.func147.trans (congrArg some (by kernel_rfl))
  f287 := Tryz.func212.trans (congrArg some (by kernel_rfl))
  f316 := Tryz.func230.trans (congrArg some (by kernel_rfl))
  f317 := Tryz.func180.trans (congrArg some (by kernel_rfl))
  f318 := Tryz.func182.trans (congrArg some (by kernel_rfl))
  f319 := Tryz.func183.trans (congrArg some (by kernel_rfl))
  f320 := Tryz.func184.trans (congrArg some (by kernel_rfl))
  f321 := Tryz.func228.trans (congrArg some (by kernel_rfl))
  f322 := Tryz.func229.trans (congrArg some (by kernel_rfl))
  f337 := Tryz.func210.trans (congrArg some (by kernel_rfl))
  f338 := Tryz.func211.trans (congrArg some (by kernel_rfl))
  t0 := Tryz.underlying0
  a0 := Tryz.isAgg0
  z0 := Tryz.sizeOf0
  v0 := Tryz.zeroValue0
  t2 := Tryz.underlying2
  a2 := Tryz.isAgg2
  z2 := Tryz.sizeOf2
  v2 := Tryz.zeroValue2
  t3 := Tryz.underlying3
  a3 := Tryz.isAgg3
  z3 := Tryz.sizeOf3
  v3 := Tryz.zeroValue3
  t4 := Tryz.underlying4
  a4 := Tryz.isAgg4
  z4 := Tryz.sizeOf4
  v4 := Tryz.zeroValue4
  t5 := Tryz.underlying5
  a5 := Tryz.isAgg5
  z5 := Tryz.sizeOf5
  v5 := Tryz.zeroValue5
  t9 := Tryz.underlying9
  a9 := Tryz.isAgg9
  z9 := Tryz.sizeOf9
  v9 := Tryz.zeroValue9
  t20 := Tryz.underlying20
  a20 := Tryz.isAgg20
  z20 := Tryz.sizeOf20
  v20 := Tryz.zeroValue20
  t21 := Tryz.underlying21
  a21 := Tryz.isAgg21
  z21 := Tryz.sizeOf21
  v21 := Tryz.zeroValue21
  t37 := Tryz.underlying81
  a37 := Tryz.isAgg81
  z37 := Tryz.sizeOf81
  v37 := Tryz.zeroValue81
  t46 := Tryz.underlying181
  a46 := Tryz.isAgg181
  z46 := Tryz.sizeOf181
  v46 := Tryz.zeroValue181
  t51 := Tryz.underlying178
  a51 := Tryz.isAgg178
  z51 := Tryz.sizeOf178
  v51 := Tryz.zeroValue178
  t53 := Tryz.underlying131
  a53 := Tryz.isAgg131
  z53 := Tryz.sizeOf131
  v53 := Tryz.zeroValue131
  t75 := Tryz.underlying86
  a75 := Tryz.isAgg86
  z75 := Tryz.sizeOf86
  v75 := Tryz.zeroValue86
  t76 := Tryz.underlying87
  a76 := Tryz.isAgg87
  z76 := Tryz.sizeOf87
  v76 := Tryz.zeroValue87
  t85 := Tryz.underlying176
  a85 := Tryz.isAgg176
  z85 := Tryz.sizeOf176
  v85 := Tryz.zeroValue176
  t127 := Tryz.underlying129
  a127 := Tryz.isAgg129
  z127 := Tryz.sizeOf129
  v127 := Tryz.zeroValue129
  t143 := Tryz.underlying251
  a143 := Tryz.isAgg251
  z143 := Tryz.sizeOf251
  v143 := Tryz.zeroValue251
  t145 := Tryz.underlying253
  a145 := Tryz.isAgg253
  z145 := Tryz.sizeOf253
  v145 := Tryz.zeroValue253
  t167 := Tryz.underlying220
  a167 := Tryz.isAgg220
  z167 := Tryz.sizeOf220
  v167 := Tryz.zeroValue220
  t168 := Tryz.underlying223
  a168 := Tryz.isAgg223
  z168 := Tryz.sizeOf223
  v168 := Tryz.zeroValue223
  t171 := Tryz.underlying170
  a171 := Tryz.isAgg170
  z171 := Tryz.sizeOf170
  v171 := Tryz.zeroValue170
  t173 := Tryz.underlying173
  a173 := Tryz.isAgg173
  z173 := Tryz.sizeOf173
  v173 := Tryz.zeroValue173
  t175 := Tryz.underlying221
  a175 := Tryz.isAgg221
  z175 := Tryz.sizeOf221
  v175 := Tryz.zeroValue221
  t210 := Tryz.underlying237
  a210 := Tryz.isAgg237
  z210 := Tryz.sizeOf237
  v210 := Tryz.zeroValue237
  t212 := Tryz.underlying198
  a212 := Tryz.isAgg198
  z212 := Tryz.sizeOf198
  v212 := Tryz.zeroValue198
  t213 := Tryz.underlying199
  a213 := Tryz.isAgg199
  z213 := Tryz.sizeOf199
  t232 := Tryz.underlying233
  a232 := Tryz.isAgg233
  z232 := Tryz.sizeOf233
  v232 := Tryz.zeroValue233
  t233 := Tryz.underlying234
  a233 := Tryz.isAgg234
  z233 := Tryz.sizeOf234
  v233 := Tryz.zeroValue234
  g15 := by kernel_rfl
  g16 := by kernel_rfl
  g17 := by kernel_rfl
  g18 := by kernel_rfl
  g19 := by kernel_rfl
  t80 := Tryz.underlying93
  a80 := Tryz.isAgg93
  z80 := Tryz.sizeOf93
  v80 := Tryz.zeroValue93
  i0 := by kernel_rfl
  i2 := by kernel_rfl
  i3 := by kernel_rfl
  i4 := by kernel_rfl
  i5 := by kernel_rfl
  i9 := by kernel_rfl
  i20 := by kernel_rfl
  i21 := by kernel_rfl
  i37 := by kernel_rfl
  i46 := by kernel_rfl
  i51 := by kernel_rfl
  i53 := by kernel_rfl
  i75 := by kernel_rfl
  i76 := by kernel_rfl
  i80 := by kernel_rfl
  i85 := by kernel_rfl
  i127 := by kernel_rfl
  i143 := by kernel_rfl
  i145 := by kernel_rfl
  i167 := by kernel_rfl
  i168 := by kernel_rfl
  i171 := by kernel_rfl
  i173 := by kernel_rfl
  i175 := by kernel_rfl
  i210 := by kernel_rfl
  i212 := by kernel_rfl
  i232 := by kernel_rfl
  i233 := by kernel_rfl
  m15 := by kernel_rfl
  m16 := by kernel_rfl
  m17 := by kernel_rfl
  m18 := by kernel_rfl
  m19 := by kernel_rfl
  c0 := by kernel_rfl
  c2 := by kernel_rfl
  c3 := by kernel_rfl
  c4 := by kernel_rfl
  c5 := by kernel_rfl
  c9 := by kernel_rfl
  c20 := by kernel_rfl
  c21 := by kernel_rfl
  c37 := by kernel_rfl
  c46 := by kernel_rfl
  c51 := by kernel_rfl
  c53 := by kernel_rfl
  c75 := by kernel_rfl
  c76 := by kernel_rfl
  c80 := by kernel_rfl
  c85 := by kernel_rfl
  c127 := by kernel_rfl
  c143 := by kernel_rfl
  c145 := by kernel_rfl
  c167 := by kernel_rfl
  c168 := by kernel_rfl
  c171 := by kernel_rfl
  c173 := by kernel_rfl
  c175 := by kernel_rfl
  c210 := by kernel_rfl
  c212 := by kernel_rfl
  c213 := by kernel_rfl
  c232 := by kernel_rfl
  c233 := by kernel_rfl }
open Go.RowKit in
/-- strconv.Atoi, AT EVERY STRING THAT SPELLS AN int ('Lib.atoiAll .. = .ok v'; of whatever length: leading zeros count): v, AND NO ERROR. The world: as it was, or with the one new row that '[]byte(..)' lays. (LAID: no walk: one application.) -/
theorem Tryz.strconv_Atoi_ok (s : ByteArray) (hmax : s.size ≤ 9223372036854775806) (v : Int) (h : Lib.atoiAll s.data.toList = .ok v) (w : World) :
    Calls Tryz.prog 151 #[.string s] w fun e w' => e = .returned (.tuple #[.int .i64 v, .nilIface]) ∧ (w' = w ∨ ∃ t, w' = Lib.bytesWorld w 5 t) := Any.strconv_Atoi_ok Tryz.laysC172 s hmax v h w
open Go.RowKit in
/-- strconv.Atoi, AT EVERY STRING THAT IS NO DECIMAL NUMERAL: 0, AND AN ERROR THAT IS NOT nil: a *NumError in a new block N: {Func: "Atoi", Num: s's bytes, Err: what the variable ErrSyntax holds}. Of what was there nothing has turned. (LAID: no walk: one application.) -/
theorem Tryz.strconv_Atoi_syntax (s : ByteArray) (hlim : s.size ≤ 281474976710656) (h : Lib.atoiAll s.data.toList ≠ .range ∧ ∀ v, Lib.atoiAll s.data.toList ≠ .ok v) (ev : Value) (w : World) (hv : w.cell? ⟨4, 0, none⟩ = some ev) (hev : ev = .nilIface ∨ ∃ te pe, ev = .iface te pe) :
    Calls Tryz.prog 151 #[.string s] w fun e w' => ∃ N, e = .returned (.tuple #[.int .i64 (0), .iface 223 (.pointer (some ⟨N, 0, none⟩))]) ∧ w.heap.size ≤ N ∧ w'.heap[N]? = some (.cells #[.string ⟨#[65, 116, 111, 105]⟩, .string s, ev] 237 (0, 0)) ∧ Below w.heap.size w w' := by
  refine Any.strconv_Atoi_syntax Tryz.laysC172 s hlim ?_ ev w hv hev
  rcases hh : Lib.atoiAll s.data.toList with v | _ | _
  · exact absurd hh (h.2 v)
  · rfl
  · exact absurd hh h.1
open Go.RowKit in
/-- strconv.Atoi, AT EVERY NUMERAL THAT NO int HOLDS ('.range'): THE GREATEST OR THE LEAST int, BY THE SIGN ('Lib.atoiSat'), AND AN ERROR THAT IS NOT nil: a *NumError in a new block N: {Func: "Atoi", Num: s's bytes, Err: what the variable ErrRange holds}. Of what was there nothing has turned. (LAID: no walk: one application.) -/
theorem Tryz.strconv_Atoi_range (s : ByteArray) (hlim : s.size ≤ 281474976710656) (h : Lib.atoiAll s.data.toList = .range) (ev : Value) (w : World) (hv : w.cell? ⟨5, 0, none⟩ = some ev) (hev : ev = .nilIface ∨ ∃ te pe, ev = .iface te pe) :
    Calls Tryz.prog 151 #[.string s] w fun e w' => ∃ N, e = .returned (.tuple #[.int .i64 (Lib.atoiSat s.data.toList), .iface 223 (.pointer (some ⟨N, 0, none⟩))]) ∧ w.heap.size ≤ N ∧ w'.heap[N]? = some (.cells #[.string ⟨#[65, 116, 111, 105]⟩, .string s, ev] 237 (0, 0)) ∧ Below w.heap.size w w' := Any.strconv_Atoi_range Tryz.laysC172 s hlim h ev w hv hev
def Tryz.lays145_ren : Go.Shelf.Ren := ⟨fun | 145 => 83 | 220 => 124 | 219 => 167 | 217 => 199 | 225 => 200 | 224 => 201 | 267 => 202 | 266 => 225 | 314 => 226 | n => n, fun | 9 => 9 | 4 => 4 | 59 => 116 | 3 => 3 | 5 => 5 | 46 => 181 | 146 => 179 | 51 => 178 | n => n, fun | 1 => 0 | n => n⟩
theorem Tryz.lays145 : Go.Proofs.Lays.n145 Tryz.prog Tryz.lays145_ren := {
  mixed := by kernel_rfl
  f145 := Tryz.func83.trans (congrArg some (by kernel_rfl))
  f217 := Tryz.func199.trans (congrArg some (by kernel_rfl))
  f219 := Tryz.func167.trans (congrArg some (by kernel_rfl))
  f220 := Tryz.func124.trans (congrArg some (by kernel_rfl))
  f224 := Tryz.func201.trans (congrArg some (by kernel_rfl))
  f225 := Tryz.func200.trans (congrArg some (by kernel_rfl))
  f266 := Tryz.func225.trans (congrArg some (by kernel_rfl))
  f267 := Tryz.func202.trans (congrArg some (by kernel_rfl))
  f314 := Tryz.func226.trans (congrArg some (by kernel_rfl))
  t3 := Tryz.underlying3
  a3 := Tryz.isAgg3
  z3 := Tryz.sizeOf3
  v3 := Tryz.zeroValue3
  t4 := Tryz.underlying4
  a4 := Tryz.isAgg4
  z4 := Tryz.sizeOf4
  v4 := Tryz.zeroValue4
  t5 := Tryz.underlying5
  a5 := Tryz.isAgg5
  z5 := Tryz.sizeOf5
  v5 := Tryz.zeroValue5
  t9 := Tryz.underlying9
  a9 := Tryz.isAgg9
  z9 := Tryz.sizeOf9
  v9 := Tryz.zeroValue9
  t46 := Tryz.underlying181
  a46 := Tryz.isAgg181
  z46 := Tryz.sizeOf181
  v46 := Tryz.zeroValue181
  t51 := Tryz.underlying178
  a51 := Tryz.isAgg178
  z51 := Tryz.sizeOf178
  v51 := Tryz.zeroValue178
  t59 := Tryz.underlying116
  a59 := Tryz.isAgg116
  z59 := Tryz.sizeOf116
  v59 := Tryz.zeroValue116
  t146 := Tryz.underlying179
  a146 := Tryz.isAgg179
  z146 := Tryz.sizeOf179
  v146 := Tryz.zeroValue179
  g1 := by kernel_rfl }
open Go.RowKit Go.Lib in
/-- strings.Cut: "Cut slices s around the first instance of sep, returning the text before and after sep. The found result reports whether sep appears in s. If sep does not appear in s, cut returns s, "", false.": IT RETURNS 'Lib.cut s sep'; the world is as it was but for the count of draws. (LAID: no walk: one application.) -/
theorem Tryz.strings_Cut (s sep : ByteArray) (m : Int) (w : World) (hs : s.size < 4294967281) (hm : w.cell? ⟨0, 0, none⟩ = some (.int .i64 m)) :
    Calls Tryz.prog 83 #[.string s, .string sep] w fun e w' => e = .returned (.tuple #[.string ⟨(Lib.cut s.data.toList sep.data.toList).1.toArray⟩, .string ⟨(Lib.cut s.data.toList sep.data.toList).2.1.toArray⟩, .bool (Lib.cut s.data.toList sep.data.toList).2.2]) ∧ ∃ n, w' = w.drewN n := Any.strings_Cut Tryz.lays145 s sep m w hs hm
def Tryz.laysGw17_ren : Go.Shelf.Ren := ⟨fun | 17 => 93 | 15 => 142 | 20 => 179 | n => n, fun | 9 => 9 | 23 => 127 | 4 => 4 | 3 => 3 | 0 => 0 | 21 => 21 | n => n, fun | n => n⟩
theorem Tryz.laysGw17 : Go.Proofs.LaysGw.n17 Tryz.prog Tryz.laysGw17_ren := {
  mixed := by kernel_rfl
  f15 := Tryz.func142.trans (congrArg some (by kernel_rfl))
  f17 := Tryz.func93.trans (congrArg some (by kernel_rfl))
  f20 := Tryz.func179.trans (congrArg some (by kernel_rfl))
  t0 := Tryz.underlying0
  a0 := Tryz.isAgg0
  z0 := Tryz.sizeOf0
  v0 := Tryz.zeroValue0
  i0 := by kernel_rfl
  t3 := Tryz.underlying3
  a3 := Tryz.isAgg3
  z3 := Tryz.sizeOf3
  v3 := Tryz.zeroValue3
  i3 := by kernel_rfl
  t4 := Tryz.underlying4
  a4 := Tryz.isAgg4
  z4 := Tryz.sizeOf4
  v4 := Tryz.zeroValue4
  i4 := by kernel_rfl
  t9 := Tryz.underlying9
  a9 := Tryz.isAgg9
  z9 := Tryz.sizeOf9
  v9 := Tryz.zeroValue9
  i9 := by kernel_rfl
  t21 := Tryz.underlying21
  a21 := Tryz.isAgg21
  z21 := Tryz.sizeOf21
  v21 := Tryz.zeroValue21
  i21 := by kernel_rfl
  t23 := Tryz.underlying127
  a23 := Tryz.isAgg127
  z23 := Tryz.sizeOf127
  v23 := Tryz.zeroValue127
  i23 := by kernel_rfl }
open Go.RowKit Go.Lib in
theorem Tryz.strings_ContainsFunc (g : Nat) (lb : Array Value) (eg : ∀ args w, (callFunc g args).run Tryz.prog w = .ok (.enter g args) w) (p : Nat → Bool) (s : ByteArray) (w : World) (hp : PredAt Tryz.prog g lb encR p w) :
    Calls Tryz.prog 93 #[.string s, .func (.func g) #[] lb] w fun e w' => e = .returned (.bool (decide (0 ≤ Lib.idxFunc p true s))) ∧ Below w.heap.size w w' := Any.strings_ContainsFunc Tryz.laysGw17 g lb eg p s w hp
def Tryz.lays206_ren : Go.Shelf.Ren := ⟨fun | 206 => 189 | n => n, fun | 9 => 9 | 4 => 4 | 3 => 3 | n => n, fun | n => n⟩
theorem Tryz.lays206 : Go.Proofs.Lays.n206 Tryz.prog Tryz.lays206_ren := {
  mixed := by kernel_rfl
  f206 := Tryz.func189.trans (congrArg some (by kernel_rfl))
  t3 := Tryz.underlying3
  a3 := Tryz.isAgg3
  z3 := Tryz.sizeOf3
  v3 := Tryz.zeroValue3
  t4 := Tryz.underlying4
  a4 := Tryz.isAgg4
  z4 := Tryz.sizeOf4
  v4 := Tryz.zeroValue4
  t9 := Tryz.underlying9
  a9 := Tryz.isAgg9
  z9 := Tryz.sizeOf9
  v9 := Tryz.zeroValue9 }
open Go.RowKit Go.Lib in
/-- internal/stringslite.HasPrefix (what strings.HasPrefix calls). (LAID: no walk: one application.) -/
theorem Tryz.stringslite_HasPrefix (s p : ByteArray) (w : World) :
    Calls Tryz.prog 189 #[.string s, .string p] w fun e w' => e = .returned (.bool (Lib.hasPrefix s.data.toList p.data.toList)) ∧ w' = w := Any.stringslite_HasPrefix Tryz.lays206 s p w
def Tryz.lays99_ren : Go.Shelf.Ren := ⟨fun | 99 => 153 | 206 => 189 | n => n, fun | 9 => 9 | 4 => 4 | 3 => 3 | n => n, fun | n => n⟩
theorem Tryz.lays99 : Go.Proofs.Lays.n99 Tryz.prog Tryz.lays99_ren := {
  mixed := by kernel_rfl
  f99 := Tryz.func153.trans (congrArg some (by kernel_rfl))
  f206 := Tryz.func189.trans (congrArg some (by kernel_rfl))
  t3 := Tryz.underlying3
  a3 := Tryz.isAgg3
  z3 := Tryz.sizeOf3
  v3 := Tryz.zeroValue3
  t4 := Tryz.underlying4
  a4 := Tryz.isAgg4
  z4 := Tryz.sizeOf4
  v4 := Tryz.zeroValue4
  t9 := Tryz.underlying9
  a9 := Tryz.isAgg9
  z9 := Tryz.sizeOf9
  v9 := Tryz.zeroValue9 }
open Go.RowKit Go.Lib in
/-- strings.HasPrefix: "HasPrefix reports whether the string s begins with prefix.": IT RETURNS 'Lib.hasPrefix s prefix'; the world is as it was. (LAID: no walk: one application.) -/
theorem Tryz.strings_HasPrefix (s p : ByteArray) (w : World) :
    Calls Tryz.prog 153 #[.string s, .string p] w fun e w' => e = .returned (.bool (Lib.hasPrefix s.data.toList p.data.toList)) ∧ w' = w := Any.strings_HasPrefix Tryz.lays99 s p w
def Tryz.lays146_ren : Go.Shelf.Ren := ⟨fun | 146 => 92 | 221 => 141 | 268 => 176 | 138 => 177 | 143 => 178 | 195 => 207 | 197 => 208 | 218 => 209 | 219 => 167 | 260 => 227 | 217 => 199 | 225 => 200 | 224 => 201 | 267 => 202 | 266 => 225 | 314 => 226 | n => n, fun | 9 => 9 | 31 => 67 | 3 => 3 | 4 => 4 | 0 => 0 | 105 => 217 | 21 => 21 | 5 => 5 | 46 => 181 | 119 => 247 | 139 => 250 | 138 => 249 | 146 => 179 | 51 => 178 | n => n, fun | 1 => 0 | 3 => 6 | 4 => 7 | n => n⟩
theorem Tryz.lays146 : Go.Proofs.Lays.n146 Tryz.prog Tryz.lays146_ren := {
  mixed := by kernel_rfl
  f138 := Tryz.func177.trans (congrArg some (by kernel_rfl))
  f143 := Tryz.func178.trans (congrArg some (by kernel_rfl))
  f146 := Tryz.func92.trans (congrArg some (by kernel_rfl))
  f195 := Tryz.func207.trans (congrArg some (by kernel_rfl))
  f197 := Tryz.func208.trans (congrArg some (by kernel_rfl))
  f217 := Tryz.func199.trans (congrArg some (by kernel_rfl))
  f218 := Tryz.func209.trans (congrArg some (by kernel_rfl))
  f219 := Tryz.func167.trans (congrArg some (by kernel_rfl))
  f221 := Tryz.func141.trans (congrArg some (by kernel_rfl))
  f224 := Tryz.func201.trans (congrArg some (by kernel_rfl))
  f225 := Tryz.func200.trans (congrArg some (by kernel_rfl))
  f260 := Tryz.func227.trans (congrArg some (by kernel_rfl))
  f266 := Tryz.func225.trans (congrArg some (by kernel_rfl))
  f267 := Tryz.func202.trans (congrArg some (by kernel_rfl))
  f268 := Tryz.func176.trans (congrArg some (by kernel_rfl))
  f314 := Tryz.func226.trans (congrArg some (by kernel_rfl))
  t0 := Tryz.underlying0
  a0 := Tryz.isAgg0
  z0 := Tryz.sizeOf0
  v0 := Tryz.zeroValue0
  t3 := Tryz.underlying3
  a3 := Tryz.isAgg3
  z3 := Tryz.sizeOf3
  v3 := Tryz.zeroValue3
  t4 := Tryz.underlying4
  a4 := Tryz.isAgg4
  z4 := Tryz.sizeOf4
  v4 := Tryz.zeroValue4
  t5 := Tryz.underlying5
  a5 := Tryz.isAgg5
  z5 := Tryz.sizeOf5
  v5 := Tryz.zeroValue5
  t9 := Tryz.underlying9
  a9 := Tryz.isAgg9
  z9 := Tryz.sizeOf9
  v9 := Tryz.zeroValue9
  t21 := Tryz.underlying21
  a21 := Tryz.isAgg21
  z21 := Tryz.sizeOf21
  v21 := Tryz.zeroValue21
  t31 := Tryz.underlying67
  a31 := Tryz.isAgg67
  z31 := Tryz.sizeOf67
  v31 := Tryz.zeroValue67
  t46 := Tryz.underlying181
  a46 := Tryz.isAgg181
  z46 := Tryz.sizeOf181
  v46 := Tryz.zeroValue181
  t51 := Tryz.underlying178
  a51 := Tryz.isAgg178
  z51 := Tryz.sizeOf178
  v51 := Tryz.zeroValue178
  t105 := Tryz.underlying217
  a105 := Tryz.isAgg217
  z105 := Tryz.sizeOf217
  v105 := Tryz.zeroValue217
  t119 := Tryz.underlying247
  a119 := Tryz.isAgg247
  z119 := Tryz.sizeOf247
  t138 := Tryz.underlying249
  a138 := Tryz.isAgg249
  z138 := Tryz.sizeOf249
  v138 := Tryz.zeroValue249
  t139 := Tryz.underlying250
  a139 := Tryz.isAgg250
  z139 := Tryz.sizeOf250
  v139 := Tryz.zeroValue250
  t146 := Tryz.underlying179
  a146 := Tryz.isAgg179
  z146 := Tryz.sizeOf179
  v146 := Tryz.zeroValue179
  g1 := by kernel_rfl
  g3 := by kernel_rfl
  g4 := by kernel_rfl }
open Go.RowKit Go.Lib in
/-- strings.Split. (LAID: no walk: one application.) -/
theorem Tryz.strings_Split (s sep : ByteArray) (m : Int) (w : World) (hs : s.size < 4294967281) (hm : w.cell? ⟨0, 0, none⟩ = some (.int .i64 m)) (h1 : 1 ≤ sep.size) :
    Calls Tryz.prog 92 #[.string s, .string sep] w fun e w' =>
      e = .returned (.slice (some ⟨w.heap.size, 0, none⟩) (Lib.countB s sep + 1) (Lib.countB s sep + 1)) ∧ w' = w.alloc (.cells ((Lib.splitB sep 0 (Lib.countB s sep) s).map Value.string).toArray 9) := Any.strings_Split Tryz.lays146 (by kernel_rfl) s sep m w hs hm h1
end Go.Proofs

end

/- Letters and names. -/
section

namespace Go.Proofs.YtdnedbcmgkilaaaGreatDoor
open Go.RowKit

set_option maxHeartbeats 1600000 in
set_option maxRecDepth 100000 in
theorem letter_any (c : UInt8) (w : World) : Calls Tryz.prog 159 #[.int .u8 c.toNat] w fun e w' => e = .returned (.bool (isLet c)) ∧ w' = w := by
  have hc := c.toNat_lt
  by_cases h1 : 97 ≤ c.toNat
  · by_cases h2 : c.toNat ≤ 122
    · have HE : Hid (isLet c = true) := Lib.hid (by unfold isLet; simp [h1, h2])
      have g1 : (97 : Int) ≤ (c.toNat : Int) := by omega
      have g2 : (c.toNat : Int) ≤ 122 := by omega
      go_enter Tryz.func159, Tryz.ntmps159
      go_wp2
      go_ret
      exact ⟨by rw [HE.out]; rfl, rfl⟩
    · have HE : Hid (isLet c = false) := Lib.hid (by unfold isLet; simp [h2])
      have g1 : (97 : Int) ≤ (c.toNat : Int) := by omega
      have g2 : ¬ (c.toNat : Int) ≤ 122 := by omega
      go_enter Tryz.func159, Tryz.ntmps159
      go_wp2
      go_ret
      exact ⟨by rw [HE.out]; rfl, rfl⟩
  · have HE : Hid (isLet c = false) := Lib.hid (by unfold isLet; simp [h1])
    have g1 : ¬ (97 : Int) ≤ (c.toNat : Int) := by omega
    go_enter Tryz.func159, Tryz.ntmps159
    go_wp2
    go_ret
    exact ⟨by rw [HE.out]; rfl, rfl⟩

theorem nameB_of {l : List UInt8} {c : UInt8} (h : l[0]? = some c) : nameB l = (decide (l.length ≤ 32) && isLet c && l.all isWrd) := by
  cases l with
  | nil => cases h
  | cons d r =>
    obtain rfl : d = c := by simpa using h
    show (decide (r.length ≤ 31) && _ && _) = _
    have : decide (r.length ≤ 31) = decide ((d :: r).length ≤ 32) := by simp
    rw [this]
theorem nameB_no {l : List UInt8} {k : Nat} {c : UInt8} (h : l[k]? = some c) (hc : isWrd c = false) : nameB l = false := by
  cases h0 : l[0]? with
  | none => rw [List.getElem?_eq_none_iff] at h0; have := get_lt h; omega
  | some d =>
    rw [nameB_of h0]
    have : l.all isWrd = false := by
      rw [List.all_eq_false]
      exact ⟨c, List.mem_of_getElem? h, by simp [hc]⟩
    simp [this]
theorem isWrd_let {c : UInt8} (h : isLet c = true) : isWrd c = true := by unfold isWrd; simp [h]
theorem take_all {l : List UInt8} {k : Nat} {c : UInt8} (h : l[k]? = some c) (hc : isWrd c = true) (ha : (l.take k).all isWrd = true) : (l.take (k + 1)).all isWrd = true := by
  rw [List.take_add_one, h, List.all_append, ha]; simp [hc]

set_option maxHeartbeats 3200000 in
set_option maxRecDepth 100000 in
theorem name_any (t : BA) (w : World) (ht : t.size ≤ 140737488351232) : Calls Tryz.prog 119 #[.string t] w fun e w' => e = .returned (.bool (nameB t.data.toList)) ∧ w' = w := by
  by_cases h0 : t.size < 1
  · have HE : Hid (nameB t.data.toList = false) := Lib.hid (by
      cases hl : t.data.toList with
      | nil => rfl
      | cons c r => have := len_list t; rw [hl] at this; simp at this; omega)
    have hlt : (t.size : Int) < 1 := by omega
    go_enter Tryz.func119, Tryz.ntmps119
    go_wp2
    go_ret
    exact ⟨by rw [HE.out]; rfl, rfl⟩
  have hge : ¬ (t.size : Int) < 1 := by omega
  have hx0 := get_of t 0 (by omega)
  by_cases h1 : 32 < t.size
  · have HE : Hid (nameB t.data.toList = false) := Lib.hid (by rw [nameB_of hx0, decide_eq_false (by rw [len_list]; omega)]; rfl)
    have hgt : (32 : Int) < (t.size : Int) := by omega
    clear hx0
    go_enter Tryz.func119, Tryz.ntmps119
    go_wp2
    go_ret
    exact ⟨by rw [HE.out]; rfl, rfl⟩
  have hng : ¬ (32 : Int) < (t.size : Int) := by omega
  have hp0 : 0 < t.size := by omega
  have HL := Lib.hid (fun w => letter_any t[0] w)
  cases hlet : isLet t[0] with
  | false =>
    have HE : Hid (nameB t.data.toList = false) := Lib.hid (by rw [nameB_of hx0, hlet]; simp)
    rw [hlet] at HL
    clear hx0 hlet
    go_enter Tryz.func119, Tryz.ntmps119
    go_wp2_with fail
    refine (HL.out _).mono ?_
    rintro e w1 ⟨rfl, rfl⟩
    go_wp2
    go_ret
    exact ⟨by rw [HE.out]; rfl, rfl⟩
  | true =>
    have HE : Hid (nameB t.data.toList = t.data.toList.all isWrd) := Lib.hid (by rw [nameB_of hx0, hlet, decide_eq_true (by rw [len_list]; omega)]; rfl)
    rw [hlet] at HL
    clear hx0 hlet
    go_enter Tryz.func119, Tryz.ntmps119
    go_wp2_with fail
    refine (HL.out _).mono ?_
    rintro e w1 ⟨rfl, rfl⟩
    clear HL
    go_wp2
    go_loop [21] (fun i => ∃ k : Nat, i = .int .i64 k ∧ k ≤ t.size ∧ Hid ((t.data.toList.take k).all isWrd = true)) (fun i => t.size - (intOf i).toNat)
    case atStart => exact ⟨0, rfl, by omega, Lib.hid rfl⟩
    case round =>
      obtain ⟨k, rfl, hk, HA⟩ := hrel
      by_cases hlt : k < t.size
      · have hxk := Lib.hid (get_of t k hlt)
        have hlt2 : (k : Int) < (t.size : Int) := by omega
        obtain ⟨c, hcc⟩ : ∃ c, t[k] = c := ⟨_, rfl⟩
        rw [hcc] at hxk
        have HL := Lib.hid (fun w => letter_any c w)
        have hc8 := c.toNat_lt
        cases hlc : isLet c with
        | true =>
          have HA2 := Lib.hid (take_all hxk.out (isWrd_let hlc) HA.out)
          rw [hlc] at HL
          clear hlc
          go_wp2_with fail
          refine (HL.out _).mono ?_
          rintro e w1 ⟨rfl, rfl⟩
          go_wp2
          go_round
          case rel => exact ⟨k + 1, by go_num, by omega, HA2⟩
          case measure => simp [intOf]; omega
        | false =>
          rw [hlc] at HL
          by_cases hd : 48 ≤ c.toNat ∧ c.toNat ≤ 57
          · have HA2 := Lib.hid (take_all hxk.out (show isWrd c = true by unfold isWrd isDig; simp [hd.1, hd.2]) HA.out)
            have g1 : ¬ (c.toNat : Int) < 48 := by omega
            have g2 : ¬ (57 : Int) < (c.toNat : Int) := by omega
            clear hlc hd
            go_wp2_with fail
            refine (HL.out _).mono ?_
            rintro e w1 ⟨rfl, rfl⟩
            go_wp2
            go_round
            case rel => exact ⟨k + 1, by go_num, by omega, HA2⟩
            case measure => simp [intOf]; omega
          · have hdig : isDig c = false := by unfold isDig; simp; omega
            by_cases hu : c.toNat = 95
            · have HA2 := Lib.hid (take_all hxk.out (show isWrd c = true by unfold isWrd; have : c = 95 := UInt8.toNat_inj.1 hu; simp [this]) HA.out)
              have g1 : ¬ (c.toNat : Int) < 48 := by omega
              have g2 : (57 : Int) < (c.toNat : Int) := by omega
              have g3 : ((c.toNat : Int) != (95 : Int)) = false := by simp; omega
              clear hlc hd hdig hu
              go_wp2_with fail
              refine (HL.out _).mono ?_
              rintro e w1 ⟨rfl, rfl⟩
              go_wp2
              go_round
              case rel => exact ⟨k + 1, by go_num, by omega, HA2⟩
              case measure => simp [intOf]; omega
            · have HN := Lib.hid (nameB_no hxk.out (show isWrd c = false by unfold isWrd; have : c ≠ 95 := fun e => hu (by rw [e]; rfl); simp [hlc, hdig, this]))
              have g3 : ((c.toNat : Int) != (95 : Int)) = true := by simp; omega
              by_cases h48 : c.toNat < 48
              · have g1 : (c.toNat : Int) < 48 := by omega
                clear hlc hd hdig hu
                go_wp2_with fail
                refine (HL.out _).mono ?_
                rintro e w1 ⟨rfl, rfl⟩
                go_wp2
                go_ret
                exact ⟨by rw [HN.out]; rfl, rfl⟩
              · have g1 : ¬ (c.toNat : Int) < 48 := by omega
                have g2 : (57 : Int) < (c.toNat : Int) := by omega
                clear hlc hd hdig hu
                go_wp2_with fail
                refine (HL.out _).mono ?_
                rintro e w1 ⟨rfl, rfl⟩
                go_wp2
                go_ret
                exact ⟨by rw [HN.out]; rfl, rfl⟩
      · have HT : Hid (nameB t.data.toList = true) := Lib.hid (by
          have h := HA.out
          rw [List.take_of_length_le (by simp; omega)] at h
          rw [HE.out]; exact h)
        have hlt2 : ¬ (k : Int) < (t.size : Int) := by omega
        go_wp2
        go_ret
        exact ⟨by rw [HT.out]; rfl, rfl⟩
end Go.Proofs.YtdnedbcmgkilaaaGreatDoor

end

/- Numbers of keys. -/
section

namespace Go.Proofs.YtdnedbcmgkilaaaGreatDoor
open Go.RowKit

theorem nx_def (n : Nat) (c : UInt8) : nx n c = n * 10 + (c.toNat - 48) := by unfold nx; rfl
theorem fold_ge : ∀ (r : List UInt8) (n : Nat), n ≤ r.foldl nx n
  | [], _ => Nat.le_refl _
  | c :: r, n => Nat.le_trans (by rw [nx_def]; omega) (fold_ge r (nx n c))
theorem dig_iff {c : UInt8} : isDig c = true ↔ 48 ≤ c.toNat ∧ c.toNat ≤ 57 := by unfold isDig; simp
theorem dec_step {n : Nat} {c : UInt8} (hn : 0 < n) (hc : isDig c = true) : Lib.decDigits (nx n c) = Lib.decDigits n ++ [c] := by
  have h := dig_iff.1 hc
  rw [nx_def, Lib.decDigits, dif_neg (by omega), show (n * 10 + (c.toNat - 48)) / 10 = n by omega, show (n * 10 + (c.toNat - 48)) % 10 = c.toNat - 48 by omega, show 48 + (c.toNat - 48) = c.toNat by omega, UInt8.ofNat_toNat]
theorem dec_one {c : UInt8} (hc : isDig c = true) : Lib.decDigits (c.toNat - 48) = [c] := by
  have h := dig_iff.1 hc
  rw [Lib.decDigits, dif_pos (by omega), show 48 + (c.toNat - 48) = c.toNat by omega, UInt8.ofNat_toNat]
theorem dec_run : ∀ (r : List UInt8) (n : Nat), 0 < n → r.all isDig = true → Lib.decDigits (r.foldl nx n) = Lib.decDigits n ++ r
  | [], n, _, _ => by simp
  | c :: r, n, hn, h => by
    rw [List.all_cons, Bool.and_eq_true] at h
    rw [List.foldl_cons, dec_run r (nx n c) (by rw [nx_def]; omega) h.2, dec_step hn h.1]; simp
theorem numB_dec {l : List UInt8} (h : numB l = true) : l = Lib.decDigits (l.foldl nx 0) ∧ l.foldl nx 0 ≤ 1000000 := by
  cases l with
  | nil => cases h
  | cons c r =>
    unfold numB at h
    simp only [Bool.and_eq_true, decide_eq_true_eq] at h
    obtain ⟨⟨⟨h1, h2⟩, h3⟩, h4⟩ := h
    rw [List.all_cons, Bool.and_eq_true] at h1
    refine ⟨?_, h4⟩
    have hd := dig_iff.1 h1.1
    have e0 : nx 0 c = c.toNat - 48 := by rw [nx_def]; omega
    rw [List.foldl_cons, e0]
    by_cases h48 : c = 48
    · subst h48
      have : r = [] := by simpa using h2
      subst this
      rw [List.foldl_nil]; exact (dec_one h1.1).symm
    · have : c.toNat ≠ 48 := fun e => h48 (UInt8.toNat_inj.1 e)
      rw [dec_run r _ (by omega) h1.2, dec_one h1.1]; rfl
theorem nd_le : ∀ (k u : Nat), u < 10 ^ (k + 1) → Lib.nDigits u ≤ k + 1
  | 0, u, h => by rw [Lib.nDigits_small (by simpa using h)]; omega
  | k + 1, u, h => by
    by_cases h10 : u < 10
    · rw [Lib.nDigits_small h10]; omega
    · rw [Lib.nDigits_big h10]
      have := nd_le k (u / 10) (by rw [Nat.pow_succ] at h; omega)
      omega
theorem dig_ofNat {d : Nat} (h : d < 10) : isDig (UInt8.ofNat (48 + d)) = true ∧ (UInt8.ofNat (48 + d)).toNat = 48 + d := by
  have : (UInt8.ofNat (48 + d)).toNat = 48 + d := by rw [UInt8.toNat_ofNat']; omega
  exact ⟨by rw [dig_iff, this]; omega, this⟩
theorem dec_facts (u : Nat) : (Lib.decDigits u).all isDig = true ∧ (Lib.decDigits u).foldl nx 0 = u ∧ 1 ≤ (Lib.decDigits u).length ∧ (0 < u → (Lib.decDigits u).head? ≠ some 48) := by
  induction u using Nat.strongRecOn with
  | _ u ih =>
    rw [Lib.decDigits]
    by_cases h : u < 10
    · rw [dif_pos h]
      obtain ⟨h1, h2⟩ := dig_ofNat h
      refine ⟨by simpa using h1, ?_, by simp, fun h0 hh => ?_⟩
      · rw [List.foldl_cons, List.foldl_nil, nx_def, h2]; omega
      · simp only [List.head?_cons, Option.some.injEq] at hh
        rw [hh] at h2
        have : (48 : UInt8).toNat = 48 := rfl
        omega
    · rw [dif_neg h]
      obtain ⟨i1, i2, i3, i4⟩ := ih (u / 10) (by omega)
      obtain ⟨h1, h2⟩ := dig_ofNat (show u % 10 < 10 by omega)
      refine ⟨by rw [List.all_append, i1]; simpa using h1, ?_, by simp, fun _ => ?_⟩
      · rw [List.foldl_append, i2, List.foldl_cons, List.foldl_nil, nx_def, h2]; omega
      · rw [List.head?_append]
        cases hh : (Lib.decDigits (u / 10)).head? with
        | none => rw [List.head?_eq_none_iff] at hh; rw [hh] at i3; simp at i3
        | some c => rw [hh] at i4; simpa using i4 (by omega)
theorem dec_numB {v : Nat} (h : v ≤ 1000000) : numB (Lib.decDigits v) = true := by
  obtain ⟨h1, h2, h3, h4⟩ := dec_facts v
  have h5 : (Lib.decDigits v).length ≤ 7 := by rw [Lib.decDigits_length]; exact nd_le 6 v (by omega)
  by_cases h0 : v = 0
  · subst h0; rw [Lib.decDigits_one (by omega)]; decide
  · have h4 := h4 (by omega)
    generalize Lib.decDigits v = l at *
    cases l with
    | nil => simp at h3
    | cons c r =>
      unfold numB
      simp only [Bool.and_eq_true, decide_eq_true_eq]
      refine ⟨⟨⟨h1, ?_⟩, by simp at h5; omega⟩, by omega⟩
      have : c ≠ 48 := fun e => h4 (by rw [e]; rfl)
      simp [this]
theorem parse_run : ∀ (r : List UInt8) (n : Nat), r.all isDig = true → r.foldl nx n ≤ 1000000 → Lib.parseUint10 n r = .ok (r.foldl nx n)
  | [], n, _, _ => rfl
  | c :: r, n, h, hm => by
    rw [List.all_cons, Bool.and_eq_true] at h
    have hd := dig_iff.1 h.1
    rw [List.foldl_cons] at hm
    have g1 := fold_ge r (nx n c)
    have e0 := nx_def n c
    rw [Lib.parseUint10, if_pos hd, if_neg (by omega), if_neg (by omega), List.foldl_cons, ← e0]
    exact parse_run r (nx n c) h.2 hm
theorem atoi_num {l : List UInt8} (h : numB l = true) : Lib.atoiAll l = .ok ((l.foldl nx 0 : Nat) : Int) ∧ Lib.itoa ((l.foldl nx 0 : Nat) : Int) = l := by
  obtain ⟨h1, h2⟩ := numB_dec h
  refine ⟨?_, by unfold Lib.itoa; rw [if_neg (by omega)]; exact h1.symm⟩
  cases l with
  | nil => cases h
  | cons c r =>
    unfold numB at h
    simp only [Bool.and_eq_true] at h
    have ha := h.1.1.1
    have ha2 := ha
    rw [List.all_cons, Bool.and_eq_true] at ha
    have hd := dig_iff.1 ha.1
    unfold Lib.atoiAll
    simp only
    rw [if_neg (by omega)]
    unfold Lib.parseMag
    rw [if_neg (by simp), parse_run _ 0 ha2 h2]
    simp only
    rw [if_neg (by omega), if_neg (by omega), if_neg (by omega)]
/-- A numeral that is written back is a number of a key. -/
theorem itoa_num {l : List UInt8} {v : Int} (h0 : 0 ≤ v) (h1 : v ≤ 1000000) (h : Lib.itoa v = l) : numB l = true := by
  subst h
  unfold Lib.itoa
  rw [if_neg (by omega)]
  exact dec_numB (by omega)

/-- The variables that the reader of numbers wants. -/
structure EnvW (w : World) : Prop where
  tab : Lib.TabIs Tryz.prog w "internal/strconv.uint64pow10" .u64 Lib.pow10Tab
  syn : ∃ tp p, w.cell? ⟨4, 0, none⟩ = some (.iface tp p)
  rng : ∃ tp p, w.cell? ⟨5, 0, none⟩ = some (.iface tp p)
theorem cell_lt {w : World} {b i : Nat} {v : Value} (h : w.cell? ⟨b, i, none⟩ = some v) : b < w.heap.size := by
  rcases Nat.lt_or_ge b w.heap.size with h' | h'
  · exact h'
  · simp [World.cell?, Array.getElem?_eq_none h'] at h
theorem EnvW.below {w w' : World} (h : EnvW w) (hb : Below w.heap.size w w') : EnvW w' := by
  obtain ⟨h1, ⟨t2, p2, h2⟩, ⟨t3, p3, h3⟩⟩ := h
  exact ⟨Lib.tabBelow_of_tabIs h1 w' hb, ⟨t2, p2, (World.cell?_of_block (hb.block 4 (cell_lt h2))).trans h2⟩, ⟨t3, p3, (World.cell?_of_block (hb.block 5 (cell_lt h3))).trans h3⟩⟩
/-- So, in a world where a block behind all that was there may be written. -/
def Env (w : World) (rb : Nat) : Prop := ∃ W, EnvW W ∧ Below W.heap.size W w ∧ W.heap.size ≤ rb
theorem Env.env {w : World} {rb : Nat} (h : Env w rb) : EnvW w := by
  obtain ⟨W, h1, h2, -⟩ := h
  exact h1.below h2
theorem Env.fr {w w' : World} {rb : Nat} (h : Env w rb) (hf : Fr (· = rb) w w') : Env w' rb := by
  obtain ⟨W, h1, h2, h3⟩ := h
  exact ⟨W, h1, Fr.to_below h2 hf h3, h3⟩
theorem Env.below {w w' : World} {rb : Nat} (h : Env w rb) (hf : Below w.heap.size w w') : Env w' rb := by
  obtain ⟨W, h1, h2, h3⟩ := h
  exact ⟨W, h1, h2.trans (hf.mono h2.size), h3⟩
theorem Env.same {w w' : World} {rb : Nat} (h : Env w rb) (hf : Same w w') : Env w' rb := h.below hf.below
theorem below_bytes (w : World) (t : ByteArray) : Below w.heap.size w (Lib.bytesWorld w 5 t) := Lib.bytesWorld_below w 5 t
theorem below_grow (w : World) (k : Nat) (os : Array Obj) : Below w.heap.size w (Sort.grow (w.drewN k) os) :=
  ⟨rfl, rfl, rfl, by show w.heap.size ≤ (w.heap ++ os).size; simp, fun i hi => by show (w.heap ++ os)[i]? = _; rw [Array.getElem?_append_left hi]⟩
theorem itoa_str {v : Int} {t : BA} (h : Lib.itoa v = t.data.toList) : (⟨(Lib.itoa v).toArray⟩ : BA) = t := by rw [h]

set_option maxHeartbeats 1600000 in
set_option maxRecDepth 100000 in
theorem number_any (t : BA) (w : World) (ht : t.size ≤ 140737488351232) (hE : EnvW w) : Calls Tryz.prog 220 #[.string t] w fun e w' => e = .returned (.bool (numB t.data.toList)) ∧ Below w.heap.size w w' := by
  rcases ha : Lib.atoiAll t.data.toList with v | _ | _
  · have HC := Lib.hid (Tryz.strconv_Atoi_ok t (by omega) v ha w)
    have HEN := Lib.hid hE
    clear hE
    have hbw : ∀ w', (w' = w ∨ ∃ t, w' = Lib.bytesWorld w 5 t) → Below w.heap.size w w' := fun w' h => by
      rcases h with rfl | ⟨t, rfl⟩
      · exact Below.refl _ _
      · exact below_bytes w t
    by_cases h0 : 0 ≤ v
    · by_cases h1 : v ≤ 1000000
      · have HI := Lib.hid (fun w1 (h : EnvW w1) => Tryz.strconv_Itoa v (by omega) (by omega) w1 h.tab)
        by_cases hi : Lib.itoa v = t.data.toList
        · have HE := Lib.hid (itoa_num h0 h1 hi)
          have HS := Lib.hid (itoa_str hi)
          clear ha hi
          go_enter Tryz.func220, Tryz.ntmps220
          go_wp2_with fail
          refine HC.out.mono ?_
          rintro e w1 ⟨rfl, hw1⟩
          have HB := Lib.hid (hbw w1 hw1)
          clear hw1 HC hbw
          go_wp2_with fail
          refine (HI.out _ (HEN.out.below HB.out)).mono ?_
          rintro e w2 ⟨rfl, k, os, rfl⟩
          have HB2 := Lib.hid (below_trans HB.out (below_grow w1 k os))
          generalize Go.Sort.grow (w1.drewN k) os = w3 at *
          rw [HS.out]
          go_wp2
          go_ret
          exact ⟨by rw [HE.out]; rfl, HB2.out⟩
        · have HE : Hid (numB t.data.toList = false) := Lib.hid (by
            cases hb : numB t.data.toList with
            | false => rfl
            | true =>
              obtain ⟨q1, q2⟩ := atoi_num hb
              rw [q1] at ha
              injection ha with ha
              rw [ha] at q2
              exact absurd q2 hi)
          have hB : ((⟨(Lib.itoa v).toArray⟩ : BA).toList == t.toList) = false := by
            rw [beq_eq_false_iff_ne, ByteArray.toList_eq, ByteArray.toList_eq]; exact hi
          clear ha hi
          go_enter Tryz.func220, Tryz.ntmps220
          go_wp2_with fail
          refine HC.out.mono ?_
          rintro e w1 ⟨rfl, hw1⟩
          have HB := Lib.hid (hbw w1 hw1)
          clear hw1 HC hbw
          go_wp2_with fail
          refine (HI.out _ (HEN.out.below HB.out)).mono ?_
          rintro e w2 ⟨rfl, k, os, rfl⟩
          have HB2 := Lib.hid (below_trans HB.out (below_grow w1 k os))
          generalize Go.Sort.grow (w1.drewN k) os = w3 at *
          generalize (⟨(Lib.itoa v).toArray⟩ : BA) = R at *
          go_wp2
          go_ret
          exact ⟨by rw [HE.out]; first | rfl | (simp [hB]), HB2.out⟩
      · have HE : Hid (numB t.data.toList = false) := Lib.hid (by
          cases hb : numB t.data.toList with
          | false => rfl
          | true =>
            obtain ⟨q1, q2⟩ := atoi_num hb
            have := (numB_dec hb).2
            rw [q1] at ha
            injection ha with ha
            omega)
        clear ha
        go_enter Tryz.func220, Tryz.ntmps220
        go_wp2_with fail
        refine HC.out.mono ?_
        rintro e w1 ⟨rfl, hw1⟩
        have HB := Lib.hid (hbw w1 hw1)
        clear hw1 HC hbw
        go_wp2
        go_ret
        exact ⟨by rw [HE.out]; rfl, HB.out⟩
    · have HE : Hid (numB t.data.toList = false) := Lib.hid (by
        cases hb : numB t.data.toList with
        | false => rfl
        | true =>
          obtain ⟨q1, q2⟩ := atoi_num hb
          rw [q1] at ha
          injection ha with ha
          omega)
      clear ha
      go_enter Tryz.func220, Tryz.ntmps220
      go_wp2_with fail
      refine HC.out.mono ?_
      rintro e w1 ⟨rfl, hw1⟩
      have HB := Lib.hid (hbw w1 hw1)
      clear hw1 HC hbw
      go_wp2
      go_ret
      exact ⟨by rw [HE.out]; rfl, HB.out⟩
  · have HE : Hid (numB t.data.toList = false) := Lib.hid (by
      cases hb : numB t.data.toList with
      | false => rfl
      | true => rw [(atoi_num hb).1] at ha; cases ha)
    obtain ⟨tp, p, hv⟩ := hE.syn
    have HC := Lib.hid (Tryz.strconv_Atoi_syntax t (by omega) ⟨fun e => by (rw [ha] at e; cases e), fun v e => by (rw [ha] at e; cases e)⟩ _ w hv (.inr ⟨tp, p, rfl⟩))
    clear ha hE hv
    go_enter Tryz.func220, Tryz.ntmps220
    go_wp2_with fail
    refine HC.out.mono ?_
    rintro e w1 ⟨M, rfl, -, -, hb⟩
    have HB := Lib.hid hb
    clear hb HC
    go_wp2
    go_ret
    exact ⟨by rw [HE.out]; rfl, HB.out⟩
  · have HE : Hid (numB t.data.toList = false) := Lib.hid (by
      cases hb : numB t.data.toList with
      | false => rfl
      | true => rw [(atoi_num hb).1] at ha; cases ha)
    obtain ⟨tp, p, hv⟩ := hE.rng
    have HC := Lib.hid (Tryz.strconv_Atoi_range t (by omega) ha _ w hv (.inr ⟨tp, p, rfl⟩))
    clear ha hE hv
    go_enter Tryz.func220, Tryz.ntmps220
    go_wp2_with fail
    refine HC.out.mono ?_
    rintro e w1 ⟨M, rfl, -, -, hb⟩
    have HB := Lib.hid hb
    clear hb HC
    go_wp2
    go_ret
    exact ⟨by rw [HE.out]; rfl, HB.out⟩
end Go.Proofs.YtdnedbcmgkilaaaGreatDoor

end

/- The contracts of the library that this proof uses, laid at this program by the kit's own shelf, in plain words. -/
section

namespace Go.Proofs
open Go.Shelf
def Tryz.lays144_ren : Go.Shelf.Ren := ⟨fun | 144 => 218 | 143 => 178 | 219 => 167 | 217 => 199 | 225 => 200 | 224 => 201 | 267 => 202 | 266 => 225 | 314 => 226 | n => n, fun | 9 => 9 | 4 => 4 | 3 => 3 | 5 => 5 | 46 => 181 | 146 => 179 | 51 => 178 | n => n, fun | 1 => 0 | n => n⟩
theorem Tryz.lays144 : Go.Proofs.Lays.n144 Tryz.prog Tryz.lays144_ren := {
  mixed := by kernel_rfl
  f143 := Tryz.func178.trans (congrArg some (by kernel_rfl))
  f144 := Tryz.func218.trans (congrArg some (by kernel_rfl))
  f217 := Tryz.func199.trans (congrArg some (by kernel_rfl))
  f219 := Tryz.func167.trans (congrArg some (by kernel_rfl))
  f224 := Tryz.func201.trans (congrArg some (by kernel_rfl))
  f225 := Tryz.func200.trans (congrArg some (by kernel_rfl))
  f266 := Tryz.func225.trans (congrArg some (by kernel_rfl))
  f267 := Tryz.func202.trans (congrArg some (by kernel_rfl))
  f314 := Tryz.func226.trans (congrArg some (by kernel_rfl))
  t3 := Tryz.underlying3
  a3 := Tryz.isAgg3
  z3 := Tryz.sizeOf3
  v3 := Tryz.zeroValue3
  t4 := Tryz.underlying4
  a4 := Tryz.isAgg4
  z4 := Tryz.sizeOf4
  v4 := Tryz.zeroValue4
  t5 := Tryz.underlying5
  a5 := Tryz.isAgg5
  z5 := Tryz.sizeOf5
  v5 := Tryz.zeroValue5
  t9 := Tryz.underlying9
  a9 := Tryz.isAgg9
  z9 := Tryz.sizeOf9
  v9 := Tryz.zeroValue9
  t46 := Tryz.underlying181
  a46 := Tryz.isAgg181
  z46 := Tryz.sizeOf181
  v46 := Tryz.zeroValue181
  t51 := Tryz.underlying178
  a51 := Tryz.isAgg178
  z51 := Tryz.sizeOf178
  v51 := Tryz.zeroValue178
  t146 := Tryz.underlying179
  a146 := Tryz.isAgg179
  z146 := Tryz.sizeOf179
  v146 := Tryz.zeroValue179
  g1 := by kernel_rfl }
open Go.RowKit Go.Lib in
/-- strings.Contains: "Contains reports whether substr is within s.": AT A substr OF ONE BYTE c: IT RETURNS 'decide (0 ≤ Lib.indexByte s c)'; the world is as it was. (LAID: no walk: one application.) -/
theorem Tryz.strings_Contains_one (s : ByteArray) (c : UInt8) (w : World) :
    Calls Tryz.prog 218 #[.string s, .string ⟨#[c]⟩] w fun e w' => e = .returned (.bool (decide (0 ≤ Lib.indexByte s.data.toList c))) ∧ w' = w := Any.strings_Contains_one Tryz.lays144 s c w
end Go.Proofs

end
