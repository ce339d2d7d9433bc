/- Bytes of the call's own in a row that a constant's conversion made; appends to it. -/
import Derived.Test.YtmagcikaepobiaaDoorRByt
import Derived.Lib.AppendStr
import Derived.Lib.SlBytesConst
import Derived.Lib.AppendZeros
namespace Go.Proofs.YtmagcikaepobiaaDoor
open Go.RowKit Go.Lib

theorem BA_len (s : ByteArray) : s.data.toList.length = s.size := by simp
theorem infoB : (Tryd.prog.info? 5).map (fun i => (i.zero, i.size, i.bytes)) = some (some (.int .u8 0), 1, 1) := by kernel_rfl
/-- Bytes of the call's own, in a row that a string's conversion or an append made. -/
def OwnM (w : World) (base : Nat) (v : Value) (xs : List Value) : Prop :=
  ∃ g cap cur lo hi, v = .slice (some ⟨g, 0, none⟩) xs.length cap ∧ base ≤ g ∧ w.heap[g]? = some (.cells cur 5 (lo, hi)) ∧ (∀ i, i < cur.size → ¬ (lo ≤ i ∧ i < hi)) ∧ xs.length ≤ cap ∧ cap ≤ maxLen ∧ cur.size = cap ∧ cur.toList.take xs.length = xs
theorem OwnM.lt {w : World} {base : Nat} {v : Value} {xs : List Value} (h : OwnM w base v xs) (g : Nat) (hg : v.ownBlock = some g) : base ≤ g ∧ g < w.heap.size := by
  obtain ⟨g1, cap, cur, lo, hi, rfl, hb, hh, -⟩ := h
  obtain rfl : g1 = g := Option.some.inj hg
  exact ⟨hb, (Array.getElem?_eq_some_iff.1 hh).1⟩
theorem OwnM.below {w w' : World} {base : Nat} {v : Value} {xs : List Value} (h : OwnM w base v xs) (hb : Below w.heap.size w w') : OwnM w' base v xs := by
  obtain ⟨g, cap, cur, lo, hi, hv, hbs, hh, hr⟩ := h
  exact ⟨g, cap, cur, lo, hi, hv, hbs, (hb.block g (Array.getElem?_eq_some_iff.1 hh).1).trans hh, hr⟩
theorem OwnM.slice {w : World} {base : Nat} {v : Value} {xs : List Value} (h : OwnM w base v xs) : ∃ g cap, v = .slice (some ⟨g, 0, none⟩) xs.length cap ∧ base ≤ g ∧ g < w.heap.size ∧ xs.length ≤ cap := by
  obtain ⟨g, cap, cur, lo, hi, hv, hb, hh, -, hc, -⟩ := h
  exact ⟨g, cap, hv, hb, (Array.getElem?_eq_some_iff.1 hh).1, hc⟩
theorem OwnM.cell {w : World} {base g n cap : Nat} {xs : List Value} (h : OwnM w base (.slice (some ⟨g, 0, none⟩) n cap) xs) {j : Nat} {u : Value} (hj : xs[j]? = some u) : w.cell? ⟨g, j, none⟩ = some u := by
  obtain ⟨g1, cap1, cur, lo, hi, hv, hb, hh, -, hc, -, hs, ht⟩ := h
  obtain ⟨h3, -, -⟩ := Value.slice.inj hv
  obtain rfl : g = g1 := by injection h3 with h; injection h
  have h1 : (cur.toList.take xs.length)[j]? = some u := by rw [ht]; exact hj
  rw [List.getElem?_take] at h1
  split at h1
  · rw [Array.getElem?_toList] at h1
    simp [World.cell?, hh, h1]
  · cases h1

section
variable {P : Program}
theorem run_append_mark (w : World) (base : Nat) (t ty : TypeId) (i : TypeInfo) (ht : P.underlying t = some (.slice 5)) (hi : P.info? 5 = some i) (hz : i.zero = some (.int .u8 0)) (hsize : i.size = 1) (hby : i.bytes = 1)
    (v : Value) (xs : List Value) (hM : OwnM w base v xs) (ad : Addr) (u : Value) (c : Nat) (hnews : w.cell? (ad.add 0) = some u) (h1 : u.oneCell' = true) (hn : xs.length + 1 ≤ 140737488355328) (hbase : base ≤ w.heap.size) :
    ∃ v' w', (Builtin.append_ #[t, t] ty #[v, .slice (some ad) 1 c]).run P w = .ok v' w' ∧ OwnM w' base v' (xs ++ [u]) ∧ w.grownBy w' v.ownBlock := by
  have hMM := hM
  obtain ⟨g, cap, cur, lo, hi', rfl, hb, hh, hfz, hc, hcm, hs, htk⟩ := hM
  have hlt := (Array.getElem?_eq_some_iff.1 hh).1
  have hn1 : ∀ j v, [u][j]? = some v → w.cell? (ad.add j) = some v := fun j v hv => by
    cases j with
    | zero => rw [← Option.some.inj hv]; exact hnews
    | succ j => cases hv
  by_cases hroom : xs.length + 1 ≤ cap
  · have hf := run_firstCells_some (P := P) w i.size 1 ad 1 c [u] (by rw [hsize]; rfl) hn1
    have hst := run_storeCells_cells (P := P) g xs.length [u] 0 w (fun j hj => by
        have : j = 0 := by simpa using hj
        subst this
        simp [World.cell?, hh]
        omega) (fun j hj => by
        have : j = 0 := by simpa using hj
        subst this
        have := hfz xs.length (by omega)
        simp [World.frozen?, hh]
        omega) (fun v hv => by rw [List.mem_singleton.1 hv]; exact h1)
    simp only [Nat.add_zero] at hst
    refine ⟨.slice (some ⟨g, 0, none⟩) (xs.length + 1) cap, w.setCells g xs.length [u], ?_, ⟨g, cap, cur.set! xs.length u, lo, hi', by simp, hb, ?_, by simpa using hfz, by simpa using hroom, hcm, by simpa using hs, ?_⟩, ⟨rfl, rfl, rfl, by simp [World.setCells, World.setCell], fun k hk hne => ?_⟩⟩
    · rw [hsize] at hf
      simp [Builtin.append_, run_underlying ht, sizeOf, typeInfo, hi, Builtin.lenOf, hroom, hf, Addr.add_lit, hsize, hst]
    · simp [World.setCells, World.setCell, Array.getElem?_modify, hh]
    · rw [List.length_append, List.length_singleton, Array.set!_eq_setIfInBounds, Array.toList_setIfInBounds, List.take_set, List.take_add_one, htk]
      rw [List.getElem?_eq_getElem (by simp; omega), Option.toList_some, List.set_append_right _ _ (Nat.le_refl _)]
      simp
    · simp only [World.setCells]
      exact Below.heap_setCell _ _ _ _ (fun e => hne (by rw [e]; rfl))
  · have hcells : ∀ j v, xs[j]? = some v → w.cell? ((⟨g, 0, none⟩ : Addr).add j) = some v := fun j v hv => by
      rw [Addr.add_mid, Nat.zero_add]
      exact hMM.cell hv
    have hr := run_append_grow (P := P) w t ty 5 i (.int .u8 0) ht hi hz ⟨g, 0, none⟩ xs.length cap xs (by rw [hsize, Nat.mul_one]) hcells ad 1 c [u] (by rw [hsize]; rfl) hn1 (by omega) (by omega) (growslice_fits (by omega) (by rw [hby]; omega))
    have hge := grownCap_ge w (xs.length + 1) cap 5
    have hcm2 : grownCap w (xs.length + 1) cap 5 ≤ maxLen := grownCap_le_maxLen w (xs.length + 1) cap 5 (by unfold maxLen; omega)
    refine ⟨_, _, hr, ⟨w.heap.size, grownCap w (xs.length + 1) cap 5, _, 0, 0, by simp, hbase, heap_alloc_new w.drew _, fun i _ => by omega, by simpa using hge, hcm2, ?_, ?_⟩, ⟨rfl, rfl, rfl, by simp, fun k hk _ => heap_alloc_old w.drew _ hk⟩⟩
    · simp only [Array.size_append, List.size_toArray, size_zeroCells]
      show xs.length + 1 + (grownCap w (xs.length + 1) cap 5 - (xs.length + 1)) * 1 = _
      omega
    · simp only [Array.toList_append]
      rw [List.take_append_of_le_length (by simp), List.take_of_length_le (by simp)]
theorem wpList_append_mark {w : World} {ops : Array Oper} {rest : List Oper} {o : Oper} {a : Act} {Q : Exit → Act → World → Prop} (hgd : o.guard = none) (s x : Operand) (t : TypeId)
    (ho : o.op = .call { callee := .builtin .append, args := #[s, x], argTypes := #[t, t] }) (base : Nat) (i : TypeInfo) (ht : P.underlying t = some (.slice 5)) (hi : P.info? 5 = some i) (hz : i.zero = some (.int .u8 0)) (hsize : i.size = 1) (hby : i.bytes = 1)
    (v : Value) (xs : List Value) (hs : a.eval s = v) (hM : OwnM w base v xs) (ad : Addr) (u : Value) (c : Nat) (hx : a.eval x = .slice (some ad) 1 c) (hnews : w.cell? (ad.add 0) = some u) (h1 : u.oneCell' = true) (hn : xs.length + 1 ≤ 140737488355328) (hbase : base ≤ w.heap.size)
    (h : ∀ v' w', OwnM w' base v' (xs ++ [u]) → w.grownBy w' v.ownBlock → wpList P ops Q rest (a.put o.dst v') w') : wpList P ops Q (o :: rest) a w := by
  refine wpList_plain hgd fun K hK => ?_
  obtain ⟨v', w', hr, h2, h3⟩ := run_append_mark (P := P) w base t o.type i ht hi hz hsize hby v xs hM ad u c hnews h1 hn hbase
  unfold Oper.wp execOp
  simp only [ho, resolve, invoke, builtin, Sem.run_bind, Sem.run_pure, Result.andThen_ok, List.map_toArray, List.map_cons, List.map_nil, hs, hx, hr]
  exact hK _ _ (h v' w' h2 h3)
end

abbrev OwnB (w : World) (B : Nat) (v : Value) (l : List UInt8) : Prop := w.ownsRow B 5 1 v l.length (Lib.byteCells l)
/-- .. not nil, and maybe the row of a constant's conversion. -/
def OwnX (w : World) (B : Nat) (v : Value) (l : List UInt8) : Prop :=
  (OwnB w B v l ∧ v ≠ .slice none 0 0) ∨ ∃ g c, v = .slice (some ⟨g, 0, none⟩) 1 1 ∧ B ≤ g ∧ w.heap[g]? = some (.cells #[c] 5 (1, 2)) ∧ l.length = 1 ∧ Lib.byteCells l = [c]
theorem OwnX.below {w w' : World} {B : Nat} {v : Value} {l : List UInt8} (h : OwnX w B v l) (hb : Below w.heap.size w w') : OwnX w' B v l := by
  rcases h with ⟨h, hn⟩ | ⟨g, c, hv, hB, hh, hl⟩
  · exact .inl ⟨ownsRow_keep h (fun g hg => hb.block g (h.lt g hg).2), hn⟩
  · exact .inr ⟨g, c, hv, hB, (hb.block g (lt_of_heap hh)).trans hh, hl⟩
theorem OwnX.lt {w : World} {B : Nat} {v : Value} {l : List UInt8} (h : OwnX w B v l) (g : Nat) (hg : v.ownBlock = some g) : B ≤ g ∧ g < w.heap.size := by
  rcases h with ⟨h, -⟩ | ⟨g', c, rfl, hB, hh, -⟩
  · exact h.lt g hg
  · obtain rfl : g' = g := Option.some.inj hg
    exact ⟨hB, lt_of_heap hh⟩
theorem OwnX.slice {w : World} {B : Nat} {v : Value} {l : List UInt8} (h : OwnX w B v l) : ∃ a cap, v = .slice a l.length cap := by
  rcases h with ⟨h, -⟩ | ⟨g, c, rfl, -, -, hl, -⟩
  · rcases h.2 with ⟨rfl, h0⟩ | ⟨g, cap, cur, rfl, -⟩
    · exact ⟨none, 0, by rw [h0]⟩
    · exact ⟨_, cap, rfl⟩
  · exact ⟨_, 1, by rw [hl]⟩
theorem OwnX.mark {w : World} {B : Nat} {v : Value} {l : List UInt8} (h : OwnX w B v l) : OwnM w B v (Lib.byteCells l) := by
  have hlen : (Lib.byteCells l).length = l.length := Lib.byteCells_length l
  rcases h with ⟨h, hn⟩ | ⟨g, c, rfl, hB, hh, hl, hc⟩
  · rcases h.2 with ⟨rfl, -⟩ | ⟨g, cap, cur, rfl, hb, hh, h1, h2, h3, h4⟩
    · exact absurd rfl hn
    · exact ⟨g, cap, cur, 0, 0, by rw [hlen], hb, hh, fun i _ => by omega, by rw [hlen]; exact h1, h2, by rw [h3, Nat.mul_one], by rw [hlen]; rw [Nat.mul_one] at h4; exact h4⟩
  · refine ⟨g, 1, #[c], 1, 2, by rw [hlen, hl], hB, hh, fun i hi => ?_, by rw [hlen, hl]; exact Nat.le_refl _, by decide, rfl, by rw [hc]; rfl⟩
    have : i < 1 := hi
    omega
set_option maxRecDepth 100000 in
/-- Bytes of a row of the call's own, as a string. -/
theorem mark_back {w : World} {B : Nat} {a : Option Addr} {n cap : Nat} {l : List UInt8} (h : OwnM w B (.slice a n cap) (Lib.byteCells l)) : (convert 47 9 (.slice a n cap)).run Tryd.prog w = .ok (.string ⟨l.toArray⟩) w := by
  have hM := h
  obtain ⟨g, cap', cur, lo, hi, hv, -⟩ := h
  injection hv with h1 h2 h3
  subst h1 h3
  have hlen : (Lib.byteCells l).length = l.length := Lib.byteCells_length l
  rw [hlen] at h2
  subst h2
  refine run_convert_bytes_back (P := Tryd.prog) w 47 9 5 ⟨g, 0, none⟩ cap l Tryd.underlying47 Tryd.underlying5 Tryd.underlying9 (fun j hj => ?_)
  rw [Addr.add_mid, Nat.zero_add]
  exact hM.cell (by simp [Lib.byteCells, hj])

theorem appX_str (w : World) (B : Nat) (ty : TypeId) (v : Value) (l : List UInt8) (hX : OwnX w B v l) (s : ByteArray) (hs : 1 ≤ s.size) (hl : l.length + s.size ≤ 140737488355328) (hbase : B ≤ w.heap.size) :
    ∃ v' w', (Builtin.append_ #[47, 9] ty #[v, .string s]).run Tryd.prog w = .ok v' w' ∧ OwnX w' B v' (l ++ s.data.toList) ∧ w.grownBy w' v.ownBlock := by
  obtain ⟨i0, hi, hz0, hz1, hz2⟩ := info_parts infoB
  have e : Lib.byteCells (l ++ s.data.toList) = Lib.byteCells l ++ Lib.strCells s := by simp [Lib.byteCells, Lib.strCells]
  have e2 : (l ++ s.data.toList).length = l.length + s.size := by rw [List.length_append, BA_len]
  rcases hX with ⟨hX, hn⟩ | ⟨g, c, rfl, hB, hh, hl1, hc⟩
  · obtain ⟨v', w', hr, h2, h3, h4⟩ := run_append_own_string (P := Tryd.prog) w B 47 9 ty 5 i0 Tryd.underlying47 Tryd.underlying9 hi hz0 hz1 hz2 v l.length _ hX s (by unfold maxLen; omega) hl hbase
    exact ⟨v', w', hr, .inl ⟨by unfold OwnB; rw [e, e2]; exact h2, fun hv => hn (h4.1 hv).1⟩, h3⟩
  · have holds : ∀ j u, [c][j]? = some u → w.cell? ((⟨g, 0, none⟩ : Addr).add j) = some u := fun j u hu => by
      rw [Addr.add_mid, Nat.zero_add]
      match j, hu with
      | 0, hu => simp [World.cell?, hh]; simpa using hu
    have hr := run_append_grow_string (P := Tryd.prog) w 47 9 ty 5 i0 (.int .u8 0) Tryd.underlying47 Tryd.underlying9 hi hz0 ⟨g, 0, none⟩ 1 1 [c] (by rw [hz1]; rfl) holds s (by omega) (by omega) (by rw [hz2]; exact growslice_fits (by omega) (by omega))
    have hge := grownCap_ge w (1 + s.size) 1 5
    have hcm : grownCap w (1 + s.size) 1 5 ≤ maxLen := grownCap_le_maxLen w (1 + s.size) 1 5 (by unfold maxLen; omega)
    refine ⟨_, _, hr, .inl ⟨?_, by simp⟩, ⟨rfl, rfl, rfl, by simp, fun k hk _ => heap_alloc_old w.drew _ hk⟩⟩
    unfold OwnB
    rw [e, e2, hl1, hc]
    refine ⟨by simp [Lib.strCells_length]; omega, .inr ⟨w.heap.size, _, _, rfl, hbase, heap_alloc_new w.drew _, hge, hcm, ?_, ?_⟩⟩
    · have hz1 : (Value.int IntKind.u8 0).cells.size = 1 := rfl
      simp only [Array.size_append, List.size_toArray, size_zeroCells, hz1, Lib.strCells_length, List.length_cons, List.length_nil]
      omega
    · simp only [Array.toList_append]
      rw [List.take_append_of_le_length (by simp [Lib.strCells_length]; omega), List.take_of_length_le (by simp [Lib.strCells_length]; omega)]
end Go.Proofs.YtmagcikaepobiaaDoor
