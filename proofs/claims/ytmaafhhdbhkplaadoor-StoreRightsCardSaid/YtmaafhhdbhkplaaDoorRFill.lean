/- The document's Filled. -/
import Derived.Test.YtmaafhhdbhkplaaDoorRBlock
import Derived.Test.YtmaafhhdbhkplaaDoorSum
import Derived.Laws.IdiomCopy
import Derived.Laws.IdiomStrings
namespace Go.Proofs.YtmaafhhdbhkplaaDoor
open Go.RowKit

theorem info5 : (Tryd.prog.info? 5).map (fun i => (i.zero, i.size, i.bytes)) = some (some (.int .u8 0), 1, 1) := by kernel_rfl

/-- Bytes of the call's own, in a row that a string's conversion or an append made. -/
def OwnM (w : World) (base : Nat) (v : Value) (xs : List Value) : Prop :=
  ∃ g cap cur lo hi, v = .slice (some ⟨g, 0, none⟩) xs.length cap ∧ base ≤ g ∧ w.heap[g]? = some (.cells cur 5 (lo, hi)) ∧ (∀ i, i < cur.size → ¬ (lo ≤ i ∧ i < hi)) ∧ xs.length ≤ cap ∧ cap ≤ maxLen ∧ cur.size = cap ∧ cur.toList.take xs.length = xs
theorem OwnM.lt {w : World} {base : Nat} {v : Value} {xs : List Value} (h : OwnM w base v xs) (g : Nat) (hg : v.ownBlock = some g) : base ≤ g ∧ g < w.heap.size := by
  obtain ⟨g1, cap, cur, lo, hi, rfl, hb, hh, -⟩ := h
  obtain rfl : g1 = g := Option.some.inj hg
  exact ⟨hb, (Array.getElem?_eq_some_iff.1 hh).1⟩
theorem OwnM.below {w w' : World} {base : Nat} {v : Value} {xs : List Value} (h : OwnM w base v xs) (hb : Below w.heap.size w w') : OwnM w' base v xs := by
  obtain ⟨g, cap, cur, lo, hi, hv, hbs, hh, hr⟩ := h
  exact ⟨g, cap, cur, lo, hi, hv, hbs, (hb.block g (Array.getElem?_eq_some_iff.1 hh).1).trans hh, hr⟩
theorem OwnM.slice {w : World} {base : Nat} {v : Value} {xs : List Value} (h : OwnM w base v xs) : ∃ g cap, v = .slice (some ⟨g, 0, none⟩) xs.length cap ∧ base ≤ g ∧ g < w.heap.size ∧ xs.length ≤ cap := by
  obtain ⟨g, cap, cur, lo, hi, hv, hb, hh, -, hc, -⟩ := h
  exact ⟨g, cap, hv, hb, (Array.getElem?_eq_some_iff.1 hh).1, hc⟩
theorem OwnM.cell {w : World} {base g n cap : Nat} {xs : List Value} (h : OwnM w base (.slice (some ⟨g, 0, none⟩) n cap) xs) {j : Nat} {u : Value} (hj : xs[j]? = some u) : w.cell? ⟨g, j, none⟩ = some u := by
  obtain ⟨g1, cap1, cur, lo, hi, hv, hb, hh, -, hc, -, hs, ht⟩ := h
  obtain ⟨h3, -, -⟩ := Value.slice.inj hv
  obtain rfl : g = g1 := by injection h3 with h; injection h
  have h1 : (cur.toList.take xs.length)[j]? = some u := by rw [ht]; exact hj
  rw [List.getElem?_take] at h1
  split at h1
  · rw [Array.getElem?_toList] at h1
    simp [World.cell?, hh, h1]
  · cases h1

section
variable {P : Program}
theorem run_append_mark (w : World) (base : Nat) (t ty : TypeId) (i : TypeInfo) (ht : P.underlying t = some (.slice 5)) (hi : P.info? 5 = some i) (hz : i.zero = some (.int .u8 0)) (hsize : i.size = 1) (hby : i.bytes = 1)
    (v : Value) (xs : List Value) (hM : OwnM w base v xs) (ad : Addr) (u : Value) (c : Nat) (hnews : w.cell? (ad.add 0) = some u) (h1 : u.oneCell' = true) (hn : xs.length + 1 ≤ 140737488355328) (hbase : base ≤ w.heap.size) :
    ∃ v' w', (Builtin.append_ #[t, t] ty #[v, .slice (some ad) 1 c]).run P w = .ok v' w' ∧ OwnM w' base v' (xs ++ [u]) ∧ w.grownBy w' v.ownBlock := by
  have hMM := hM
  obtain ⟨g, cap, cur, lo, hi', rfl, hb, hh, hfz, hc, hcm, hs, htk⟩ := hM
  have hlt := (Array.getElem?_eq_some_iff.1 hh).1
  have hn1 : ∀ j v, [u][j]? = some v → w.cell? (ad.add j) = some v := fun j v hv => by
    cases j with
    | zero => rw [← Option.some.inj hv]; exact hnews
    | succ j => cases hv
  by_cases hroom : xs.length + 1 ≤ cap
  · have hf := run_firstCells_some (P := P) w i.size 1 ad 1 c [u] (by rw [hsize]; rfl) hn1
    have hst := run_storeCells_cells (P := P) g xs.length [u] 0 w (fun j hj => by
        have : j = 0 := by simpa using hj
        subst this
        simp [World.cell?, hh]
        omega) (fun j hj => by
        have : j = 0 := by simpa using hj
        subst this
        have := hfz xs.length (by omega)
        simp [World.frozen?, hh]
        omega) (fun v hv => by rw [List.mem_singleton.1 hv]; exact h1)
    simp only [Nat.add_zero] at hst
    refine ⟨.slice (some ⟨g, 0, none⟩) (xs.length + 1) cap, w.setCells g xs.length [u], ?_, ⟨g, cap, cur.set! xs.length u, lo, hi', by simp, hb, ?_, by simpa using hfz, by simpa using hroom, hcm, by simpa using hs, ?_⟩, ⟨rfl, rfl, rfl, by simp [World.setCells, World.setCell], fun k hk hne => ?_⟩⟩
    · rw [hsize] at hf
      simp [Builtin.append_, run_underlying ht, sizeOf, typeInfo, hi, Builtin.lenOf, hroom, hf, Addr.add_lit, hsize, hst]
    · simp [World.setCells, World.setCell, Array.getElem?_modify, hh]
    · rw [List.length_append, List.length_singleton, Array.set!_eq_setIfInBounds, Array.toList_setIfInBounds, List.take_set, List.take_add_one, htk]
      rw [List.getElem?_eq_getElem (by simp; omega), Option.toList_some, List.set_append_right _ _ (Nat.le_refl _)]
      simp
    · simp only [World.setCells]
      exact Below.heap_setCell _ _ _ _ (fun e => hne (by rw [e]; rfl))
  · have hcells : ∀ j v, xs[j]? = some v → w.cell? ((⟨g, 0, none⟩ : Addr).add j) = some v := fun j v hv => by
      rw [Addr.add_mid, Nat.zero_add]
      exact hMM.cell hv
    have hr := run_append_grow (P := P) w t ty 5 i (.int .u8 0) ht hi hz ⟨g, 0, none⟩ xs.length cap xs (by rw [hsize, Nat.mul_one]) hcells ad 1 c [u] (by rw [hsize]; rfl) hn1 (by omega) (by omega) (growslice_fits (by omega) (by rw [hby]; omega))
    have hge := grownCap_ge w (xs.length + 1) cap 5
    have hcm2 : grownCap w (xs.length + 1) cap 5 ≤ maxLen := grownCap_le_maxLen w (xs.length + 1) cap 5 (by unfold maxLen; omega)
    refine ⟨_, _, hr, ⟨w.heap.size, grownCap w (xs.length + 1) cap 5, _, 0, 0, by simp, hbase, heap_alloc_new w.drew _, fun i _ => by omega, by simpa using hge, hcm2, ?_, ?_⟩, ⟨rfl, rfl, rfl, by simp, fun k hk _ => heap_alloc_old w.drew _ hk⟩⟩
    · simp only [Array.size_append, List.size_toArray, size_zeroCells]
      show xs.length + 1 + (grownCap w (xs.length + 1) cap 5 - (xs.length + 1)) * 1 = _
      omega
    · simp only [Array.toList_append]
      rw [List.take_append_of_le_length (by simp), List.take_of_length_le (by simp)]
theorem wpList_append_mark {w : World} {ops : Array Oper} {rest : List Oper} {o : Oper} {a : Act} {Q : Exit → Act → World → Prop} (hgd : o.guard = none) (s x : Operand) (t : TypeId)
    (ho : o.op = .call { callee := .builtin .append, args := #[s, x], argTypes := #[t, t] }) (base : Nat) (i : TypeInfo) (ht : P.underlying t = some (.slice 5)) (hi : P.info? 5 = some i) (hz : i.zero = some (.int .u8 0)) (hsize : i.size = 1) (hby : i.bytes = 1)
    (v : Value) (xs : List Value) (hs : a.eval s = v) (hM : OwnM w base v xs) (ad : Addr) (u : Value) (c : Nat) (hx : a.eval x = .slice (some ad) 1 c) (hnews : w.cell? (ad.add 0) = some u) (h1 : u.oneCell' = true) (hn : xs.length + 1 ≤ 140737488355328) (hbase : base ≤ w.heap.size)
    (h : ∀ v' w', OwnM w' base v' (xs ++ [u]) → w.grownBy w' v.ownBlock → wpList P ops Q rest (a.put o.dst v') w') : wpList P ops Q (o :: rest) a w := by
  refine wpList_plain hgd fun K hK => ?_
  obtain ⟨v', w', hr, h2, h3⟩ := run_append_mark (P := P) w base t o.type i ht hi hz hsize hby v xs hM ad u c hnews h1 hn hbase
  unfold Oper.wp execOp
  simp only [ho, resolve, invoke, builtin, Sem.run_bind, Sem.run_pure, Result.andThen_ok, List.map_toArray, List.map_cons, List.map_nil, hs, hx, hr]
  exact hK _ _ (h v' w' h2 h3)
end

theorem ownM_new (w : World) (s : ByteArray) (cap : Nat) (hc : s.size ≤ cap) (hm : cap ≤ maxLen) : OwnM (w.alloc (.cells (bytesRow s cap) 5 ((bytesRow s cap).size, (bytesRow s cap).size + 1))) w.heap.size (.slice (some ⟨w.heap.size, 0, none⟩) s.size cap) (Lib.byteCells s.data.toList) := by
  have hl : (Lib.byteCells s.data.toList).length = s.size := by simp [Lib.byteCells]
  refine ⟨w.heap.size, cap, bytesRow s cap, _, _, by rw [hl], Nat.le_refl _, heap_alloc_new w _, fun i hi => by omega, by rw [hl]; exact hc, hm, ?_, ?_⟩
  · simp [bytesRow]; omega
  · rw [hl]
    simp only [bytesRow, Array.toList_append]
    rw [List.take_append_of_le_length (by simp), List.take_of_length_le (by simp)]
    simp [Lib.byteCells]

/-- How far the filling has come: the bytes, the row, the memory. -/
structure FI (w : World) (v : Value) (l : Bs) (W : World) : Prop where
  own : OwnM W w.heap.size v (Lib.byteCells l)
  below : Below w.heap.size w W
theorem FI.snoc {w W w1 : World} {v v' : Value} {l : Bs} {b : UInt8} {o : Obj} (h : FI w v l W) (hM : OwnM w1 w.heap.size v' (Lib.byteCells l ++ [.int .u8 (b.toNat : Int)])) (hg : (W.alloc o).grownBy w1 v.ownBlock) : FI w v' (l ++ [b]) w1 :=
  ⟨by simpa [Lib.byteCells] using hM, (h.below.alloc h.below.size _).grown hg (by have := h.below.size; simp; omega) (fun k e => (h.own.lt k e).1)⟩
theorem FI.form {w W : World} {v : Value} {l : Bs} (h : FI w v l W) (_ : 0 < l.length) : ∃ g cap, v = .slice (some ⟨g, 0, none⟩) l.length cap := by
  obtain ⟨g, cap, hv, -⟩ := h.own.slice
  refine ⟨g, cap, ?_⟩
  rw [hv]; simp [Lib.byteCells]
def lenV : Value → Nat
  | .slice _ n _ => n
  | _ => 0
theorem ba_len (s : ByteArray) : s.data.toList.length = s.size := by simp
theorem bytesM_length (l : Bs) : (Lib.byteCells l).length = l.length := by simp [Lib.byteCells]

set_option maxHeartbeats 2000000 in
set_option maxRecDepth 100000 in
theorem filled_any (s : ByteArray) (w : World) (hs : s.size ≤ 140737488351232) : Calls Tryd.prog 44 #[.string s] w fun e w' => ∃ v, e = .returned v ∧ FI w v (s.data.toList ++ padF s.size) w' := by
  obtain ⟨i0, hi, hz0, hz1, hz2⟩ := info_parts info5
  have hcv := run_bytes_of_string (P := Tryd.prog) w 9 65 5 s Tryd.underlying9 Tryd.underlying65 Tryd.underlying5
  have hF0 : FI w (.slice (some ⟨w.heap.size, 0, none⟩) s.size (grownCap w s.size 0 5)) s.data.toList (w.drew.alloc (.cells (bytesRow s (grownCap w s.size 0 5)) 5 ((bytesRow s (grownCap w s.size 0 5)).size, (bytesRow s (grownCap w s.size 0 5)).size + 1))) :=
    ⟨ownM_new w.drew s _ (grownCap_ge w s.size 0 5) (grownCap_le_maxLen w s.size 0 5 (by unfold maxLen; omega)), ((Same.refl w).drew.below).trans (below1 w.drew _)⟩
  have HF0 := Lib.hid hF0
  clear hF0
  generalize grownCap w s.size 0 5 = c0 at *
  generalize hW0 : w.drew.alloc (.cells (bytesRow s c0) 5 ((bytesRow s c0).size, (bytesRow s c0).size + 1)) = w0 at hcv HF0
  have hM0 := HF0.out.own
  have hB0 := HF0.out.below
  clear hW0
  go_enter Tryd.func44, Tryd.ntmps44
  go_wp2_with (at_builtin; refine wpList_append_mark rfl _ _ 65 rfl w.heap.size i0 Tryd.underlying65 hi hz0 hz1 hz2 (.slice (some ⟨w.heap.size, 0, none⟩) s.size c0) _ rfl (hM0.below (below1 _ _)) ⟨w0.heap.size, 0, none⟩ (.int .u8 128) 1 rfl (cell_one_new _ _ _ 0 _ rfl) rfl (by rw [bytesM_length, ba_len]; omega) (by have := hB0.size; simp; omega) ?_; intro v' w1 hM1 hg1)
  have HF1 : Hid (FI w v' (s.data.toList ++ [128]) w1) := Lib.hid (HF0.out.snoc (b := 128) hM1 hg1)
  clear hM1 hg1 HF0 hM0 hB0 hcv
  obtain ⟨Z, hZ⟩ : ∃ Z, Z = (119 - s.size % 64) % 64 := ⟨_, rfl⟩
  have hZ64 : Z < 64 := by omega
  have HZ := Lib.hid hZ
  clear hZ
  obtain ⟨g1, cap1, rfl⟩ := HF1.out.form (by simp)
  rw [show (s.data.toList ++ [128] : Bs).length = s.size + 1 by simp] at HF1 ⊢
  go_wp2
  go_loopw [3] (fun v wr => ∃ (k g1 cap1 : Nat), k ≤ Z ∧ v = .slice (some ⟨g1, 0, none⟩) (s.size + 1 + k) cap1 ∧ Hid (FI w v (s.data.toList ++ [128] ++ List.replicate k 0) wr)) (fun v _ => s.size + 1 + Z - lenV v)
  case atStart => exact ⟨0, g1, cap1, by omega, rfl, by simpa using HF1⟩
  case round =>
    clear HF1
    obtain ⟨k, g1, cap1, hk, rfl, HF⟩ := hrel
    have hl : ((s.data.toList ++ [128] ++ List.replicate k 0 : Bs)).length = s.size + 1 + k := by simp; omega
    by_cases hkZ : k < Z
    · have hB : ((((s.size + 1 + k : Nat) : Int)) % 64 != 56) = true := by
        have := HZ.out
        simp only [bne_iff_ne]; omega
      have hB2 : ((s.size : Int) + 1 + (k : Int)) % 64 ≠ 56 := by have := HZ.out; omega
      have hM0 := HF.out.own
      have hB0 := HF.out.below
      go_wp2_with (at_builtin; refine wpList_append_mark rfl _ _ 65 rfl w.heap.size i0 Tryd.underlying65 hi hz0 hz1 hz2 (.slice (some ⟨g1, 0, none⟩) (s.size + 1 + k) cap1) _ rfl (hM0.below (below1 _ _)) ⟨wr.heap.size, 0, none⟩ (.int .u8 0) 1 rfl (cell_one_new _ _ _ 0 _ rfl) rfl (by rw [bytesM_length, hl]; omega) (by have := hB0.size; simp; omega) ?_; intro v' w2 hM1 hg1)
      have HF2 : Hid (FI w v' (s.data.toList ++ [128] ++ List.replicate (k + 1) 0) w2) := Lib.hid (by
        have := HF.out.snoc (b := 0) hM1 hg1
        rw [List.replicate_succ', ← List.append_assoc]
        exact this)
      clear hM1 hg1 hM0 hB0 HF
      have hl2 : ((s.data.toList ++ [128] ++ List.replicate (k + 1) 0 : Bs)).length = s.size + 1 + (k + 1) := by simp; omega
      obtain ⟨g2, cap2, hv⟩ := HF2.out.form (by omega)
      rw [hl2] at hv
      subst hv
      go_wp2
      refine ⟨⟨k + 1, g2, cap2, by omega, rfl, HF2⟩, ?_⟩
      simp [lenV]; omega
    · obtain rfl : k = Z := by omega
      have hB : ((((s.size + 1 + k : Nat) : Int)) % 64 != 56) = false := by
        have := HZ.out
        simp only [bne_eq_false_iff_eq]; omega
      have hB2 : ((s.size : Int) + 1 + (k : Int)) % 64 = 56 := by have := HZ.out; omega
      have HP : Hid (s.data.toList ++ padF s.size = s.data.toList ++ [128] ++ List.replicate k 0 ++ be (8 * s.size) 8) := Lib.hid (by
        unfold padF
        rw [← HZ.out]; simp)
      generalize hLL : (s.data.toList ++ [128] ++ List.replicate k 0 : Bs) = L at *
      clear hLL HZ
      go_wp2
      clear hB hB2
      go_loopw [3, 5] (fun v x wr => ∃ (i1 g1 cap1 : Nat), i1 ≤ 8 ∧ x = .int .i64 ((i1 : Int) - 1) ∧ v = .slice (some ⟨g1, 0, none⟩) (s.size + 1 + k + (8 - i1)) cap1 ∧ Hid (FI w v (L ++ be (8 * s.size) (8 - i1)) wr)) (fun _ x _ => (intOf x + 1).toNat)
      case atStart => exact ⟨8, g1, cap1, by omega, rfl, rfl, by simpa [be] using HF⟩
      case round =>
        clear HF
        obtain ⟨i1, g1, cap1, hi1, rfl, rfl, HF⟩ := hrel
        rcases Nat.eq_zero_or_pos i1 with rfl | hpos
        · rw [show (((0 : Nat) : Int) - 1) = (-1 : Int) from rfl]
          go_wp2
          go_ret
          exact ⟨_, rfl, by rw [HP.out]; exact HF.out⟩
        · obtain ⟨i, rfl⟩ : ∃ i, i1 = i + 1 := ⟨i1 - 1, by omega⟩
          rw [show 8 - (i + 1) = 7 - i by omega] at HF ⊢
          have hLi : (L ++ be (8 * s.size) (7 - i)).length = s.size + 1 + k + (7 - i) := by rw [List.length_append, be_length, hl]
          rw [show (((i + 1 : Nat) : Int) - 1) = (i : Int) by omega]
          have HE : Hid (be (8 * s.size) (8 - i) = be (8 * s.size) (7 - i) ++ [UInt8.ofNat (8 * s.size / 2 ^ (8 * i))]) := Lib.hid (by
            rw [show 8 - i = (7 - i) + 1 by omega, be, show 56 - 8 * (7 - i) = 8 * i by omega])
          have hby := byte_int (8 * s.size) (8 * i)
          rw [show ((8 * s.size : Nat) : Int) = (s.size : Int) * 8 by omega] at hby
          generalize UInt8.ofNat (8 * s.size / 2 ^ (8 * i)) = b at *
          have hbt : ((s.size : Int) * 8 / 2 ^ (8 * i)).tmod 256 = (b.toNat : Int) := by
            rw [Int.tmod_eq_emod_of_nonneg (Int.ediv_nonneg (by omega) (Int.le_of_lt (Int.pow_pos (by decide))))]
            exact hby
          have hbb := b.toNat_lt
          have hb8 : (b.toNat : Int) % 256 = (b.toNat : Int) := by omega
          have hM0 := HF.out.own
          have hB0 := HF.out.below
          clear hby
          go_wp2_with (at_builtin; refine wpList_append_mark rfl _ _ 65 rfl w.heap.size i0 Tryd.underlying65 hi hz0 hz1 hz2 (.slice (some ⟨g1, 0, none⟩) (s.size + 1 + k + (7 - i)) cap1) _ rfl (hM0.below (below1 _ _)) ⟨wr.heap.size, 0, none⟩ (.int .u8 (b.toNat : Int)) 1 rfl (cell_one_new _ _ _ 0 _ rfl) rfl (by rw [bytesM_length, hLi]; omega) (by have := hB0.size; simp; omega) ?_; intro v' w2 hM1 hg1)
          have HF2 : Hid (FI w v' (L ++ be (8 * s.size) (8 - i)) w2) := Lib.hid (by
            have := HF.out.snoc hM1 hg1
            rw [HE.out, ← List.append_assoc]
            exact this)
          clear hM1 hg1 hM0 hB0 HF
          have hl2 : (L ++ be (8 * s.size) (8 - i)).length = s.size + 1 + k + (8 - i) := by rw [List.length_append, be_length, hl]
          obtain ⟨g2, cap2, hv⟩ := HF2.out.form (by omega)
          rw [hl2] at hv
          subst hv
          go_wp2
          refine ⟨⟨i, g2, cap2, by omega, rfl, rfl, HF2⟩, ?_⟩
          simp [intOf]
end Go.Proofs.YtmaafhhdbhkplaaDoor
