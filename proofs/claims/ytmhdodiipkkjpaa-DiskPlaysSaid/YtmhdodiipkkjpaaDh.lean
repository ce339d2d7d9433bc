/- slices.Clone, slices.Insert and slices.Delete at entries: laws of rows; Clone. -/
import Derived.Test.YtmhdodiipkkjpaaDe
import Derived.Lib.Overlaps
import Derived.Laws.IdiomCopy
import Derived.WalkSpells
namespace Go.Proofs.Ytmhdodiipkkjpaa.Dk
open Go.RowKit

abbrev noF : Fil := ⟨⟨#[]⟩, ⟨#[]⟩, ⟨#[]⟩⟩

/-- Cells stored one behind the other. -/
def setA (cur : Array Value) : Nat → List Value → Array Value
  | _, [] => cur
  | o, v :: r => setA (cur.setIfInBounds o v) (o + 1) r
theorem setA_size : ∀ (vs : List Value) (o : Nat) (cur : Array Value), (setA cur o vs).size = cur.size
  | [], _, _ => rfl
  | v :: r, o, cur => by rw [setA, setA_size r, Array.size_setIfInBounds]
theorem setA_list : ∀ (vs : List Value) (o : Nat) (cur : Array Value), o + vs.length ≤ cur.size → (setA cur o vs).toList = cur.toList.take o ++ vs ++ cur.toList.drop (o + vs.length)
  | [], o, cur, _ => by rw [setA]; simp
  | v :: r, o, cur, h => by
    simp only [List.length_cons] at h
    rw [setA, setA_list r (o + 1) _ (by rw [Array.size_setIfInBounds]; omega), Array.toList_setIfInBounds]
    have hl : o < cur.toList.length := by simp; omega
    have h1 : (cur.toList.set o v).take (o + 1) = cur.toList.take o ++ [v] := by
      rw [List.take_add_one, List.take_set_of_le (Nat.le_refl _)]
      congr 1
      rw [List.getElem?_set_self hl]; rfl
    have h2 : (cur.toList.set o v).drop (o + 1 + r.length) = cur.toList.drop (o + (r.length + 1)) := by
      rw [List.drop_set_of_lt (by omega)]; congr 1; omega
    rw [h1, h2, List.length_cons]
    simp
theorem heap_setCells (g : Nat) : ∀ (vs : List Value) (o : Nat) (w : World) (cur : Array Value) (e : TypeId) (z : Nat × Nat), w.heap[g]? = some (.cells cur e z) → (w.setCells g o vs).heap[g]? = some (.cells (setA cur o vs) e z)
  | [], _, _, _, _, _, h => h
  | v :: r, o, w, cur, e, z, h => by
    rw [World.setCells, setA]
    refine heap_setCells g r (o + 1) _ _ e z ?_
    simp [World.setCell, Array.getElem?_modify, h]
theorem grown_setCells {w w' : World} {row : Option Nat} {g : Nat} (h : w.grownBy w' row) (hg : row = some g ∨ w.heap.size ≤ g) (o : Nat) (vs : List Value) : w.grownBy (w'.setCells g o vs) row := by
  have hb := but_setCells g vs o w'
  refine ⟨hb.os.trans h.os, hb.tape.trans h.tape, hb.output.trans h.output, by rw [hb.size]; exact h.size, fun k hk hr => ?_⟩
  rw [hb.block k (fun e => by subst e; rcases hg with hg | hg; exact hr hg.symm; omega)]
  exact h.block k hk hr
theorem grown_drew {w w' : World} {row : Option Nat} (h : w.grownBy w' row) : w.grownBy w'.drew row := ⟨h.os, h.tape, h.output, h.size, h.block⟩
theorem grown_drewN {w w' : World} {row : Option Nat} (h : w.grownBy w' row) (n : Nat) : w.grownBy (w'.drewN n) row := ⟨h.os, h.tape, h.output, h.size, h.block⟩
theorem grown_fr {w w' : World} {row : Option Nat} (h : w.grownBy w' row) : Fr (fun k => row = some k) w w' := ⟨h.os, h.tape, h.output, h.size, fun k hk hx => h.block k hk (fun e => hx e.symm)⟩
/-- 'copy' of elements of any size. -/
theorem run_copy_cellsK {P : Program} (w : World) (dT sT ty elem : TypeId) (K b o dLen dCap : Nat) (a : Addr) (sLen sCap : Nat) (cs : List Value)
    (hu : P.underlying dT = some (.slice elem)) (hs : (P.info? elem).map (·.size) = some K) (hn : cs.length = Nat.min sLen dLen * K)
    (hsrc : ∀ j v, cs[j]? = some v → w.cell? (a.add j) = some v) (hc : ∀ j, j < cs.length → (w.cell? ⟨b, o + j, none⟩).isSome = true) (hf : ∀ j, j < cs.length → w.frozen? ⟨b, o + j, none⟩ = false) (h1 : ∀ v ∈ cs, v.oneCell' = true) :
    (Builtin.copy_ #[dT, sT] ty #[.slice (some ⟨b, o, none⟩) dLen dCap, .slice (some a) sLen sCap]).run P w = .ok (goInt (Nat.min sLen dLen)) (w.setCells b o cs) := by
  cases hq : P.info? elem with
  | none => simp [hq] at hs
  | some i =>
    have hi : i.size = K := by simpa [hq] using hs
    subst hi
    have hl := run_firstCells_some (P := P) w i.size (Nat.min sLen dLen) a sLen sCap cs hn hsrc
    have hst := run_storeCells_cells (P := P) b o cs 0 w (by simpa using hc) (by simpa using hf) h1
    simp only [Nat.add_zero] at hst
    simp [Builtin.copy_, run_underlying hu, Builtin.lenOf, sizeOf, typeInfo, hq, hl, hst]
/-- A row of the call's own: its block. -/
theorem own_block {w : World} {base g cap : Nat} {n : Nat} {xs : List Fil} (h : Own w base (.slice (some ⟨g, 0, none⟩) n cap) xs) : ∃ cur, w.heap[g]? = some (.cells cur 44 (0, 0)) ∧ cur.size = cap * 3 ∧ cur.toList.take (xs.length * 3) = flat xs ∧ base ≤ g ∧ n = xs.length ∧ xs.length ≤ cap ∧ cap ≤ maxLen := by
  rcases h.2 with ⟨h0, -⟩ | ⟨g', cap', cur, hv, hb, hh, hc, hm, hs, ht⟩
  · cases h0
  · injection hv with hv1 hv2 hv3
    obtain rfl : g = g' := by injection hv1 with h; injection h
    subst hv3
    exact ⟨cur, hh, hs, ht, hb, hv2, hc, hm⟩
theorem own_of_block {w : World} {base g cap : Nat} {xs : List Fil} {cur : Array Value} (hh : w.heap[g]? = some (.cells cur 44 (0, 0))) (hs : cur.size = cap * 3) (ht : cur.toList.take (xs.length * 3) = flat xs) (hb : base ≤ g) (hc : xs.length ≤ cap) (hm : cap ≤ maxLen) :
    Own w base (.slice (some ⟨g, 0, none⟩) xs.length cap) xs := ⟨flat_length xs, .inr ⟨g, cap, cur, rfl, hb, hh, hc, hm, hs, ht⟩⟩
theorem block_cell {w : World} {g : Nat} {cur : Array Value} {e : TypeId} {z : Nat × Nat} (h : w.heap[g]? = some (.cells cur e z)) (i : Nat) : w.cell? ⟨g, i, none⟩ = cur[i]? := by
  simp [World.cell?, h]
theorem block_thaw {w : World} {g : Nat} {cur : Array Value} {e : TypeId} (h : w.heap[g]? = some (.cells cur e (0, 0))) (i : Nat) : w.frozen? ⟨g, i, none⟩ = false := by
  simp [World.frozen?, h]

/-- Entries appended to a row of the call's own, wherever they lie. -/
theorem run_append_fil (w : World) (ty : TypeId) (base : Nat) (v : Value) (xs : List Fil) (hown : Own w base v xs) (a : Option Addr) (c : Nat) (ys : List Fil) (hin : SlF w (Old w) (.slice a ys.length c) ys) (h63 : xs.length + ys.length ≤ 1000000) (hbase : base ≤ w.heap.size) :
    ∃ v' w', (Builtin.append_ #[22, 22] ty #[v, .slice a ys.length c]).run Try.prog w = .ok v' w' ∧ Own w' base v' (xs ++ ys) ∧ w.grownBy w' v.ownBlock ∧ (v'.ownBlock = v.ownBlock ∨ v'.ownBlock = some w.heap.size) := by
  obtain ⟨i0, hi, hz0, hz1, hz2⟩ := info_parts infoF
  cases a with
  | none =>
    have hy : ys = [] := by
      cases ys with
      | nil => rfl
      | cons y r => obtain ⟨b, off, ha, -⟩ := hin.get (j := 0) rfl; cases ha
    subst hy
    refine ⟨v, w, ?_, by simpa [Own] using hown, World.grownBy.refl w _, .inl rfl⟩
    rcases hown.2 with ⟨rfl, h0⟩ | ⟨g, cap, cur, rfl, _, _, hnc, _⟩
    · simp [Builtin.append_, run_underlying Try.underlying22, sizeOf, typeInfo, hi, Builtin.lenOf, Builtin.firstCells]
    · simp [Builtin.append_, run_underlying Try.underlying22, sizeOf, typeInfo, hi, Builtin.lenOf, Builtin.firstCells, hnc, storeCells]
  | some ad =>
    obtain ⟨v', w', hr, h2, h3, -, h5⟩ := run_append_own_at (P := Try.prog) w base 22 ty 44 i0 _ 3 48 Try.underlying22 hi hz0 hz1 hz2 rfl (by decide) v xs.length (flat xs) hown ad ys.length c (flat ys) (flat_length ys) hin.cells flat_one (by unfold maxLen; omega) (by omega) hbase
    exact ⟨v', w', hr, by unfold Own; rw [flat_append, List.length_append]; exact h2, h3, h5⟩

/-- A slice that the call made: its entries. -/
def OwnPost (xs : List Fil) (w : World) (e : Ending) (w' : World) : Prop := ∃ v, e = .returned v ∧ Own w' w.heap.size v xs ∧ Below w.heap.size w w'

set_option maxHeartbeats 1600000 in
theorem clone_any (w : World) (a : Option Addr) (cap : Nat) (xs : List Fil) (hX : SlF w (Old w) (.slice a xs.length cap) xs) (hl : xs.length ≤ 1000) :
    Calls Try.prog 31 #[.slice a xs.length cap] w (OwnPost xs w) := by
  have q22 : ∀ (w : World) (a : Option Addr) (n c n' c' : Nat), (binOp .eql 22 (.slice a n c) (.slice none n' c')).run Try.prog w = .ok (.bool a.isNone) w := fun w a n c n' c' => Lib.run_eql_slice_nil w _ _ a n c n' c' Try.underlying22
  cases a with
  | none =>
    have hy : xs = [] := by
      cases xs with
      | nil => rfl
      | cons y r => obtain ⟨b, off, ha, -⟩ := hX.get (j := 0) rfl; cases ha
    subst hy
    clear hX
    go_enter Try.func31, Try.ntmps31
    go_wp2
    go_ret
    exact ⟨_, rfl, World.ownsRow_nil _ _ _ _, Below.refl _ _⟩
  | some ad =>
    obtain ⟨v', w', hr, hown, hgrow, -⟩ := run_append_fil (w.alloc (.cells #[] 44)) 22 w.heap.size (.slice (some ⟨w.heap.size, 0, none⟩) 0 0) [] (World.ownsRow_made w #[] 0 (Nat.le_refl _) (Nat.zero_le _) (by simp)) (some ad) cap xs (hX.old (below1 _ _)) (by simp; omega) (by simp)
    have HO : Hid (Own w' w.heap.size v' xs) := Lib.hid (by simpa using hown)
    have HB : Hid (Below w.heap.size w w') := Lib.hid ((below1 w _).grown hgrow (by simp) (by intro k hk; simp [Value.ownBlock] at hk; omega))
    have HR := Lib.hid hr
    clear hr hown hgrow hX
    go_enter Try.func31, Try.ntmps31
    go_wp2_with (at_builtin; refine Lib.wpList_append_run _ rfl _ _ _ _ rfl _ _ rfl rfl _ _ HR.out ?_)
    go_ret
    exact ⟨v', rfl, HO.out, HB.out⟩
end Go.Proofs.Ytmhdodiipkkjpaa.Dk
