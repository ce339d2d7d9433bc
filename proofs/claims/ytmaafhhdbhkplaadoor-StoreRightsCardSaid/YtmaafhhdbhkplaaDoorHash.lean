/- initialState, state, New: the Hash in memory. -/
import Derived.Test.YtmaafhhdbhkplaaDoorMixed
import Derived.Test.YtmaafhhdbhkplaaDoorPad
namespace Go.Proofs.YtmaafhhdbhkplaaDoor
open Go.RowKit

theorem info55 : (Tryd.prog.info? 72).map (·.size) = some 73 := by kernel_rfl

abbrev z73 : Array Value := #[.int .u64 0, .int .u32 0, .int .u32 0, .int .u32 0, .int .u32 0, .int .u32 0, .int .u32 0, .int .u32 0, .int .u32 0, .int .u8 0, .int .u8 0, .int .u8 0, .int .u8 0, .int .u8 0, .int .u8 0, .int .u8 0, .int .u8 0, .int .u8 0, .int .u8 0, .int .u8 0, .int .u8 0, .int .u8 0, .int .u8 0, .int .u8 0, .int .u8 0, .int .u8 0, .int .u8 0, .int .u8 0, .int .u8 0, .int .u8 0, .int .u8 0, .int .u8 0, .int .u8 0, .int .u8 0, .int .u8 0, .int .u8 0, .int .u8 0, .int .u8 0, .int .u8 0, .int .u8 0, .int .u8 0, .int .u8 0, .int .u8 0, .int .u8 0, .int .u8 0, .int .u8 0, .int .u8 0, .int .u8 0, .int .u8 0, .int .u8 0, .int .u8 0, .int .u8 0, .int .u8 0, .int .u8 0, .int .u8 0, .int .u8 0, .int .u8 0, .int .u8 0, .int .u8 0, .int .u8 0, .int .u8 0, .int .u8 0, .int .u8 0, .int .u8 0, .int .u8 0, .int .u8 0, .int .u8 0, .int .u8 0, .int .u8 0, .int .u8 0, .int .u8 0, .int .u8 0, .int .u8 0]
theorem zinfo55 : (Tryd.prog.info? 72).map (·.zero) = some (some (.agg z73)) := by kernel_rfl
theorem zero55 (w : World) : (zeroValue 72).run Tryd.prog w = .ok (.agg z73) w := by
  obtain ⟨i, hi, hz⟩ := Option.map_eq_some_iff.1 zinfo55
  simp [zeroValue, typeInfo, Sem.run_bind, hi, hz]

theorem initial_any (w : World) : Calls Tryd.prog 51 #[] w fun e w' => e = .returned (.agg (u32s h0.list).toArray) ∧ Below w.heap.size w w' := by
  go_enter Tryd.func51, Tryd.ntmps51
  go_wp2
  refine bodyPost_ret (v := .agg (u32s h0.list).toArray) ?_ rfl ⟨rfl, below1 _ _⟩
  exact results_cell_row rfl _ _ w.heap.size 69 (u32s h0.list).toArray (0, 0) _ rfl (row_new w (u32s h0.list).toArray 69) Tryd.underlying69 rfl info52
theorem new_any (w : World) : Calls Tryd.prog 40 #[] w fun e w' => e = .returned (.pointer (some ⟨w.heap.size, 0, none⟩)) ∧ w' = w.alloc (.cells z73 72) := by
  go_enter Tryd.func40, Tryd.ntmps40
  go_wp2
  first
    | (rw [zero55]
       simp only [Result.andThen]
       rw [Oper.upon_value]
       go_wp2
       go_ret)
    | go_ret
  exact ⟨rfl, rfl⟩

def hcells (n : Nat) (ws : List Int) (bl : Bs) : List Value := .int .u64 n :: (u32s ws ++ Lib.byteCells bl)
theorem bytes_length (l : Bs) : (Lib.byteCells l).length = l.length := by simp [Lib.byteCells]
theorem hcells_length (n : Nat) (ws : List Int) (bl : Bs) : (hcells n ws bl).length = 1 + ws.length + bl.length := by
  simp [hcells, bytes_length]; omega

/-- The words behind the whole blocks of a text. -/
def stW (m : Bs) : S8 := stN kL h0 m (m.length / 64)
theorem stW_ok (m : Bs) : (stW m).Ok := stN_ok kL h0_ok m _

/-- What a Hash in block b is like, to which m was added. -/
structure HashIn (w : World) (b : Nat) (m : Bs) (ws : List Int) (bl : Bs) : Prop where
  row : Row w b 72 (hcells m.length ws bl)
  wl : ws.length = 8
  bll : bl.length = 64
  words : 64 ≤ m.length → ws = (stW m).list
  tail : bl.take (m.length % 64) = m.drop (64 * (m.length / 64))
def HashAt (w : World) (b : Nat) (m : Bs) : Prop := ∃ ws bl, HashIn w b m ws bl
theorem HashIn.keep {w w' : World} {b : Nat} {m : Bs} {ws : List Int} {bl : Bs} (h : HashIn w b m ws bl) (hk : w'.heap[b]? = w.heap[b]?) : HashIn w' b m ws bl := { h with row := h.row.keep hk }
theorem HashAt.keep {w w' : World} {b : Nat} {m : Bs} (h : HashAt w b m) (hk : w'.heap[b]? = w.heap[b]?) : HashAt w' b m := by
  obtain ⟨ws, bl, h⟩ := h
  exact ⟨ws, bl, h.keep hk⟩
theorem HashAt.lt {w : World} {b : Nat} {m : Bs} (h : HashAt w b m) : b < w.heap.size := by
  obtain ⟨ws, bl, h⟩ := h
  exact h.row.lt
theorem hash_new (w : World) : HashAt (w.alloc (.cells z73 72)) w.heap.size [] := by
  refine ⟨List.replicate 8 0, List.replicate 64 0, ?_, rfl, rfl, fun h => by simp at h, rfl⟩
  exact row_new w z73 72
theorem HashIn.c0 {w : World} {b : Nat} {m : Bs} {ws : List Int} {bl : Bs} (h : HashIn w b m ws bl) : w.cell? ⟨b, 0, none⟩ = some (.int .u64 m.length) := h.row.cell rfl
theorem HashIn.words_at {w : World} {b : Nat} {m : Bs} {ws : List Int} {bl : Bs} (h : HashIn w b m ws bl) : w.rangeAt b 1 (u32s ws) := fun j v hv => by
  refine h.row.cell ?_
  have hj := (List.getElem?_eq_some_iff.1 hv).1
  rw [hcells, Nat.add_comm, List.getElem?_cons_succ, List.getElem?_append_left hj]
  exact hv
theorem HashIn.block_at {w : World} {b : Nat} {m : Bs} {ws : List Int} {bl : Bs} (h : HashIn w b m ws bl) : w.rangeAt b 9 (Lib.byteCells bl) := fun j v hv => by
  refine h.row.cell ?_
  have hj := (List.getElem?_eq_some_iff.1 hv).1
  have hl : (u32s ws).length = 8 := by rw [List.length_map]; exact h.wl
  rw [hcells, show 9 + j = 8 + j + 1 by omega, List.getElem?_cons_succ, List.getElem?_append_right (by omega), hl, Nat.add_sub_cancel_left]
  exact hv

set_option maxRecDepth 100000 in
theorem state_any (w : World) (b : Nat) (m : Bs) (h : HashAt w b m) (hm : m.length ≤ 1152921504606846975) : Calls Tryd.prog 46 #[.pointer (some ⟨b, 0, none⟩)] w fun e w' => e = .returned (.agg (u32s (stW m).list).toArray) ∧ Below w.heap.size w w' := by
  obtain ⟨ws, bl, h⟩ := h
  have hlt := h.row.lt
  have HH : Hid (HashIn (w.alloc (.cells z8 69)) b m ws bl) := Lib.hid (h.keep (Below.heap_alloc _ _ _ hlt))
  have RN : Hid (Row (w.alloc (.cells z8 69)) w.heap.size 69 (u32s (List.replicate 8 0))) := Lib.hid (row_new w z8 69)
  have HB : Hid (Below w.heap.size w (w.alloc (.cells z8 69))) := Lib.hid (below1 _ _)
  have hc0 := h.c0
  have H1 := Lib.hid h
  clear h
  have hl : (u32s (stW m).list).length = 8 := rfl
  by_cases h64 : m.length < 64
  · have HE : Hid (stW m = h0) := Lib.hid (by rw [stW, Nat.div_eq_of_lt h64]; rfl)
    rw [HE.out]
    go_enter Tryd.func46, Tryd.ntmps46
    go_wp2_with fail
    generalize w.alloc (.cells z8 69) = w1 at *
    refine (initial_any w1).mono ?_
    rintro e w2 ⟨rfl, hb2⟩
    have RN2 : Hid (Row w2 w.heap.size 69 (u32s (List.replicate 8 0))) := Lib.hid (RN.out.below hb2)
    have HB2 : Hid (Below w.heap.size w w2) := Lib.hid (below_trans HB.out hb2)
    clear RN HB hb2 HH H1 HE hc0
    have hL : (u32s h0.list).length = 8 := rfl
    generalize hZ : h0.list = Z at hL ⊢
    have HZ := Lib.hid hZ
    clear hZ
    have HT : Hid (w2.there w.heap.size 0 (u32s Z).toArray.size) := Lib.hid (RN2.out.there 0 _ (by rw [List.size_toArray, hL]; simp))
    have HI2 : Hid ((Tryd.prog.info? 69).map (·.size) = some (u32s Z).toArray.size) := Lib.hid (by rw [List.size_toArray, hL]; exact info52)
    have HR4 : Hid (Row (w2.setCells w.heap.size 0 (u32s Z).toArray.toList) w.heap.size 69 (u32s Z)) := Lib.hid (RN2.out.setArr _ (by rw [hL]; simp))
    have HB4 : Hid (Below w.heap.size w (w2.setCells w.heap.size 0 (u32s Z).toArray.toList)) := Lib.hid (HB2.out.trans ((but_setCells _ _ _ _).below (Nat.le_refl _)))
    clear hL hl
    go_wp2_with ((refine wpList_store_row rfl rfl 69 _ _ rfl w.heap.size 0 (u32s Z).toArray rfl rfl HT.out HI2.out (one_u32s _) ?_))
    refine bodyPost_ret (v := .agg (u32s Z).toArray) ?_ rfl ⟨by rw [HZ.out], HB4.out⟩
    exact results_cell_row rfl _ _ w.heap.size 69 _ (0, 0) _ rfl HR4.out Tryd.underlying69 rfl HI2.out
  · have HZ : Hid (ws = (stW m).list) := Lib.hid (H1.out.words (by omega))
    have HRG : Hid ((w.alloc (.cells z8 69)).rangeAt b 1 (u32s ws)) := Lib.hid HH.out.words_at
    have hL : (u32s ws).length = 8 := by rw [List.length_map]; exact H1.out.wl
    have HI : Hid ((Tryd.prog.info? 69).map (·.size) = some (u32s ws).length) := Lib.hid (by rw [hL]; exact info52)
    have HT : Hid ((w.alloc (.cells z8 69)).there w.heap.size 0 (u32s ws).toArray.size) := Lib.hid (RN.out.there 0 _ (by rw [List.size_toArray, hL]; simp))
    have HI2 : Hid ((Tryd.prog.info? 69).map (·.size) = some (u32s ws).toArray.size) := Lib.hid (by rw [List.size_toArray]; exact HI.out)
    have HR4 : Hid (Row ((w.alloc (.cells z8 69)).setCells w.heap.size 0 (u32s ws).toArray.toList) w.heap.size 69 (u32s ws)) := Lib.hid (RN.out.setArr _ (by rw [hL]; simp))
    have HB4 : Hid (Below w.heap.size w ((w.alloc (.cells z8 69)).setCells w.heap.size 0 (u32s ws).toArray.toList)) := Lib.hid (HB.out.trans ((but_setCells _ _ _ _).below (Nat.le_refl _)))
    clear hL hl
    go_enter Tryd.func46, Tryd.ntmps46
    go_wp2_with (first
      | (refine wpList_load_mid rfl 69 _ rfl b 1 rfl (u32s ws) _ HRG.out Tryd.underlying69 rfl HI.out ?_)
      | (refine wpList_store_row rfl rfl 69 _ _ rfl w.heap.size 0 (u32s ws).toArray rfl rfl HT.out HI2.out (one_u32s _) ?_))
    refine bodyPost_ret (v := .agg (u32s ws).toArray) ?_ rfl ⟨by rw [HZ.out], HB4.out⟩
    exact results_cell_row rfl _ _ w.heap.size 69 _ (0, 0) _ rfl HR4.out Tryd.underlying69 rfl HI2.out
end Go.Proofs.YtmaafhhdbhkplaaDoor
