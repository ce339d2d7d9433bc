/- The document's Sweep. -/
import Derived.Test.YtmaafhhdbhkplaaDoorSwp
namespace Go.Proofs.YtmaafhhdbhkplaaDoor
open Go.RowKit

set_option maxHeartbeats 3200000 in
set_option maxRecDepth 100000 in
theorem rsweep_any (w : World) (a : Option Addr) (cap : Nat) (xs : List Itm) (hIn : InI w a xs) (hl : xs.length ≤ 4096) :
    Calls Tryd.prog 20 #[.agg #[.slice a xs.length cap]] w (StPost (swp xs) w) := by
  obtain ⟨i0, hi, hz0, hz1, hz2⟩ := info_parts info29
  have E0 : Hid (MEnv w (((w.alloc (.cells #[.slice a xs.length cap] 24)).alloc (.cells #[.slice none 0 0] 24)).alloc (.cells #[.slice none 0 0] 24)) (w.heap.size + 1 + 1) a cap xs []) := Lib.hid
    ⟨((row_new w #[.slice a xs.length cap] 24).alloc _).alloc _, (by have := (row_new (w.alloc (.cells #[.slice a xs.length cap] 24)) #[.slice none 0 0] 24).alloc (.cells #[.slice none 0 0] 24); simpa using this), hIn.below (below3 _ _ _ _), (by have := out_new ((w.alloc (.cells #[.slice a xs.length cap] 24)).alloc (.cells #[.slice none 0 0] 24)); simpa using this), below3 _ _ _ _, inI_old hIn⟩
  clear hIn
  go_enter Tryd.func20, Tryd.ntmps20
  go_wp2
  generalize hW0 : ((w.alloc (.cells #[.slice a xs.length cap] 24)).alloc (.cells #[.slice none 0 0] 24)).alloc (.cells #[.slice none 0 0] 24) = W0 at *
  clear hW0
  go_loopw [10] (fun i wr => ∃ (k : Nat) (ys : List Itm), k ≤ xs.length ∧ i = .int .i64 k ∧ ys.length ≤ 4096 ∧ Hid (ys = swp (xs.take k)) ∧ Hid (MEnv w wr (w.heap.size + 1 + 1) a cap xs ys)) (fun i _ => xs.length - (intOf i).toNat)
  case atStart => exact ⟨0, [], by omega, rfl, by simp, Lib.hid (by simp [swp]), E0⟩
  case round =>
    obtain ⟨k, ys, hk, rfl, hyl, HY, E⟩ := hrel
    obtain ⟨ao, co, hrow, hown⟩ := E.out.out.form
    have hMl := hrow.lt
    have hcs : wr.cell? ⟨w.heap.size, 0, none⟩ = some (.slice a xs.length cap) := E.out.box.cell rfl
    by_cases hlt : k < xs.length
    · obtain ⟨x, hx⟩ : ∃ x, xs[k]? = some x := ⟨_, List.getElem?_eq_getElem hlt⟩
      obtain ⟨b, off, rfl, hbl, h0, h1, h2⟩ := E.out.its.at_ hx
      have HX := Lib.hid hx
      have HROW := Lib.hid hrow
      have HOWN := Lib.hid hown
      clear hx hrow hown
      by_cases hr : 0 < x.r
      · have HY2 : Hid (ys ++ [x] = swp (xs.take (k + 1))) := Lib.hid (by rw [swp_take_in HX.out hr, HY.out])
        obtain ⟨kk, bb, rr⟩ := x
        simp only at h0 h1 h2 hr
        have q3 := row_new wr #[.string kk, .string bb, .int .i64 rr] 29
        have hE : Below wr.heap.size wr (wr.alloc (.cells #[.string kk, .string bb, .int .i64 rr] 29)) := below1 wr _
        have hrow := HROW.out.below hE
        have hown := ownsRow_below HOWN.out hE
        have E1 := Lib.hid (E.out.same hE)
        have c0 := q3.cell (i := 0) rfl
        have c1 := q3.cell (i := 1) rfl
        have c2 := q3.cell (i := 2) rfl
        have c3 := hrow.cell (i := 0) rfl
        have hsz : w.heap.size + 1 + 1 < (wr.alloc (.cells #[.string kk, .string bb, .int .i64 rr] 29)).heap.size := Nat.lt_of_lt_of_le hMl hE.size
        have HR1 := Lib.hid hrow
        have HO1 := Lib.hid hown
        clear hE q3 hrow hown
        have hown := HO1.out
        go_wp2_with (at_builtin; refine wpList_append_lies _ rfl _ _ 22 rfl (w.heap.size + 1 + 1 + 1) 29 i0 _ 3 40 Tryd.underlying22 hi hz0 hz1 hz2 rfl (by decide) _ _ _ rfl (hown.alloc _) _ 1 1 [.string kk, .string bb, .int .i64 rr] rfl rfl (cell_n3 _ _ _ _ _ (by simp)) (by simp [Value.oneCell']) (by decide) (by unfold maxLen; omega) (by omega) (by simp; omega) _ rfl ?_; intro g cap' w2 hown' hgrow hg hglt; obtain ⟨hcell, hfz, HA, HV⟩ := out_step (x := ⟨kk, bb, rr⟩) HR1.out HO1.out hown' hgrow; clear hown' hgrow hg hglt)
        have HE2 := Lib.hid (E1.out.step (by omega) HV.out HA.out)
        go_roundw
        case rel => exact ⟨k + 1, ys ++ [⟨kk, bb, rr⟩], by omega, by go_num, by have := HY2.out; rw [this]; have := swp_length_le (xs.take (k + 1)); rw [List.length_take] at this; omega, HY2, HE2⟩
        case measure => simp [intOf]; omega
      · have HY2 : Hid (ys = swp (xs.take (k + 1))) := Lib.hid (by rw [swp_take_out HX.out hr, HY.out])
        obtain ⟨kk, bb, rr⟩ := x
        simp only at h0 h1 h2 hr
        have E1 := Lib.hid (E.out.same (below1 wr (.cells #[.string kk, .string bb, .int .i64 rr] 29)))
        go_wp2
        go_roundw
        case rel => exact ⟨k + 1, ys, by omega, by go_num, hyl, HY2, E1⟩
        case measure => simp [intOf]; omega
    · have HYE : Hid (ys = swp xs) := Lib.hid (by rw [HY.out, List.take_of_length_le (by omega)])
      have c3 := hrow.cell (i := 0) rfl
      have f2 := E.out.res.cell (i := 0) rfl
      have f3 := E.out.res.thaw 0
      have hbut : But (w.heap.size + 1) wr (wr.setCell ⟨w.heap.size + 1, 0, none⟩ (.slice ao ys.length co)) := (But.refl _ _).set _ _
      have g1 := (E.out.res.set 0 (.slice ao ys.length co)).cell (i := 0) rfl
      obtain ⟨a5, c5, hv5, -, hI5⟩ := InI.of_owns (owns_but hown hbut (by omega))
      have HV5 := Lib.hid hv5
      have HI5 := Lib.hid hI5
      have HOWN := Lib.hid hown
      have HB5 := Lib.hid (E.out.bel.trans (hbut.below (B := w.heap.size) (by omega)))
      clear hrow hown hv5 hI5 hbut
      go_wp2
      exact bodyPost_ret (v := .agg #[.slice ao ys.length co]) (by simp [results, Tryd.results20, go_sem, g1]) rfl ⟨a5, c5, by rw [← HYE.out, HV5.out], by rw [← HYE.out]; exact HI5.out, fun ad had => by
        have h1 := HV5.out
        injection h1 with h1
        have := own_base HOWN.out ad (h1.trans had)
        omega, HB5.out⟩
end Go.Proofs.YtmaafhhdbhkplaaDoor
