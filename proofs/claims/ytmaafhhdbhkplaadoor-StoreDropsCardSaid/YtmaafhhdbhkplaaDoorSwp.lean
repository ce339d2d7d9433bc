/- Sweep, of package store and of the document. -/
import Derived.Test.YtmaafhhdbhkplaaDoorDrp
namespace Go.Proofs.YtmaafhhdbhkplaaDoor
open Go.RowKit

theorem swp_take_in {xs : List Itm} {k : Nat} {x : Itm} (h : xs[k]? = some x) (hr : 0 < x.r) : swp (xs.take (k + 1)) = swp (xs.take k) ++ [x] := by
  obtain ⟨hlt, rfl⟩ := List.getElem?_eq_some_iff.1 h
  unfold swp
  rw [List.take_succ_eq_append_getElem hlt, List.filter_append]; simp [hr]
theorem swp_take_out {xs : List Itm} {k : Nat} {x : Itm} (h : xs[k]? = some x) (hr : ¬ 0 < x.r) : swp (xs.take (k + 1)) = swp (xs.take k) := by
  obtain ⟨hlt, rfl⟩ := List.getElem?_eq_some_iff.1 h
  unfold swp
  rw [List.take_succ_eq_append_getElem hlt, List.filter_append]; simp [hr]
theorem swp_length_le (xs : List Itm) : (swp xs).length ≤ xs.length := List.length_filter_le _ _

theorem PEnv.stepB {w wi wj : World} {a : Option Addr} {cap : Nat} {xs : List Itm} (h : PEnv w wi a cap xs) (old : ∀ ad : Addr, a = some ad → ad.block < w.heap.size ∨ xs = []) {B : Nat} (hB : w.heap.size + 1 < B) (hb : Below B wi wj) : PEnv w wj a cap xs := by
  refine ⟨h.box.keep (hb.block _ (by omega)), h.res.keep (hb.block _ (by omega)), ⟨fun hx => ?_, h.arg.szs, h.arg.len, h.arg.cap1, h.arg.cap2, h.arg.nil⟩, h.tab.keep (hb.block 0 (by omega)), h.bel.trans (hb.mono (by omega))⟩
  obtain ⟨b, off, ha, hl, hc⟩ := h.arg.its hx
  have hlt : b < w.heap.size := by
    rcases old _ ha with h1 | h1
    · exact h1
    · exact absurd h1 hx
  exact ⟨b, off, ha, Nat.lt_of_lt_of_le hl hb.size, fun j x hj => (hc j x hj).keep (hb.block b (by omega))⟩
theorem cell_n3 (w : World) (x y z : Value) (t : TypeId) {B : Nat} (hB : w.heap.size = B) : ∀ j v, [x, y, z][j]? = some v → (w.alloc (.cells #[x, y, z] t)).cell? (Addr.add ⟨B, 0, none⟩ j) = some v := cell_new3b w x y z t hB

set_option maxHeartbeats 1600000 in
set_option maxRecDepth 100000 in
theorem sweep_no (w : World) (a : Option Addr) (cap : Nat) (xs : List Itm) (ha : Arg w a cap xs) (ht : Tab w) (hr : ¬ Rgt xs) :
    Calls Tryd.prog 19 #[.agg #[.slice a xs.length cap]] w (DropPost [] 1 w) := by
  have HR := Lib.hid hr
  clear hr
  have E0 := Lib.hid (PEnv.new ha ht)
  obtain ⟨f1, f2, f3⟩ := E0.out.facts
  have hlen := ha.len
  clear ha ht
  go_enter Tryd.func19, Tryd.ntmps19
  go_wp2_with fail
  generalize (w.alloc (.cells #[.slice a xs.length cap] 24)).alloc (.cells #[.slice none 0 0] 24) = w0 at *
  refine (right_no w0 a cap xs HR.out hlen E0.out.arg.szs E0.out.arg.its).mono ?_
  rintro e w1 ⟨rfl, hb1⟩
  have E1 := Lib.hid (E0.out.step hb1)
  clear f1 f2 f3
  obtain ⟨f1, f2, f3⟩ := E1.out.facts
  clear hb1
  obtain ⟨g1, g2⟩ := E1.out.put (.slice none 0 0)
  have G2 := Lib.hid g2
  clear g2
  go_wp2
  exact bodyPost_ret (v := .tuple #[.agg #[.slice none 0 0], .int .i64 1]) (by simp [results, Tryd.results19, go_sem, g1]) rfl ⟨_, _, rfl, InI.nil _ _, G2.out⟩

set_option maxHeartbeats 3200000 in
set_option maxRecDepth 100000 in
theorem sweep_yes (w : World) (a : Option Addr) (cap : Nat) (xs : List Itm) (ha : Arg w a cap xs) (ht : Tab w) (hr : Rgt xs) :
    Calls Tryd.prog 19 #[.agg #[.slice a xs.length cap]] w (DropPost (swp xs) 0 w) := by
  obtain ⟨i0, hi, hz0, hz1, hz2⟩ := info_parts info29
  have HR := Lib.hid hr
  have hl4 := hr.1
  have E0 := Lib.hid (PEnv.new ha ht)
  obtain ⟨f1, f2, f3⟩ := E0.out.facts
  have hlen := ha.len
  have HOLD := Lib.hid (inI_old ha.its)
  clear ha ht hr
  go_enter Tryd.func19, Tryd.ntmps19
  go_wp2_with fail
  generalize (w.alloc (.cells #[.slice a xs.length cap] 24)).alloc (.cells #[.slice none 0 0] 24) = w0 at *
  refine (right_yes w0 a cap xs HR.out E0.out.arg.szs E0.out.arg.its).mono ?_
  rintro e w1 ⟨rfl, hb1⟩
  have E1 := Lib.hid (E0.out.step hb1)
  clear f1 f2 f3
  obtain ⟨f1, f2, f3⟩ := E1.out.facts
  have hB := E1.out.lt
  clear hb1
  go_wp2
  clear f1 f2 f3
  go_loopw [4, 14] (fun s i wr => ∃ (k : Nat) (ys : List Itm), k ≤ xs.length ∧ i = .int .i64 k ∧ ys.length ≤ 4096 ∧ w1.heap.size ≤ wr.heap.size ∧ Hid (ys = swp (xs.take k)) ∧ Hid (Own wr w1.heap.size s ys) ∧ Hid (PEnv w wr a cap xs)) (fun _ i _ => xs.length - (intOf i).toNat)
  case atStart => exact ⟨0, [], by omega, rfl, by simp, by omega, Lib.hid (by simp [swp]), Lib.hid (World.ownsRow_nil _ _ _ _), E1⟩
  case round =>
    obtain ⟨k, ys, hk, rfl, hyl, hsw, HY, HO, E⟩ := hrel
    obtain ⟨ao, co, rfl, -⟩ := owns_form HO.out
    obtain ⟨f1, f2, f3⟩ := E.out.facts
    by_cases hlt : k < xs.length
    · obtain ⟨x, hx⟩ : ∃ x, xs[k]? = some x := ⟨_, List.getElem?_eq_getElem hlt⟩
      obtain ⟨b, off, rfl, hbl, h0, h1, h2⟩ := E.out.arg.its.at_ hx
      have HX := Lib.hid hx
      have HH := Lib.hid (held_any x)
      clear hx
      by_cases hr : 0 < x.r
      · have HE : Hid (decide (0 < x.r) = true) := Lib.hid (by simpa using hr)
        have HY2 : Hid (ys ++ [x] = swp (xs.take (k + 1))) := Lib.hid (by rw [swp_take_in HX.out hr, HY.out])
        clear hr
        obtain ⟨kk, bb, rr⟩ := x
        simp only at h0 h1 h2
        have q3 := row_new wr #[.string kk, .string bb, .int .i64 rr] 29
        have HQ3 := Lib.hid q3
        have hE : Below wr.heap.size wr (wr.alloc (.cells #[.string kk, .string bb, .int .i64 rr] 29)) := below1 wr _
        have HE1 := Lib.hid hE
        have c0 := q3.cell (i := 0) rfl
        have c1 := q3.cell (i := 1) rfl
        have c2 := q3.cell (i := 2) rfl
        clear q3 hE
        go_wp2_with fail
        refine (HH.out _).mono ?_
        rintro e w5 ⟨rfl, hb5⟩
        rw [HE.out]
        have HB5 := Lib.hid (below_trans HE1.out hb5)
        have q5 := HQ3.out.below hb5
        have E5 := Lib.hid (E.out.step HB5.out)
        have hown := ownsRow_below HO.out HB5.out
        have HO5 := Lib.hid hown
        have hs5 := HB5.out.size
        clear c0 c1 c2 f1 f2 f3 hb5
        have c0 := q5.cell (i := 0) rfl
        have c1 := q5.cell (i := 1) rfl
        have c2 := q5.cell (i := 2) rfl
        clear q5
        go_wp2_with (at_builtin; refine wpList_append_lies _ rfl _ _ 22 rfl w1.heap.size 29 i0 _ 3 40 Tryd.underlying22 hi hz0 hz1 hz2 rfl (by decide) _ _ _ rfl (hown.alloc _) _ 1 1 [.string kk, .string bb, .int .i64 rr] rfl rfl (cell_n3 _ _ _ _ _ (by simp)) (by simp [Value.oneCell']) (by decide) (by unfold maxLen; omega) (by omega) (by simp; omega) _ rfl ?_; intro g cap' w2 hown' hgrow hg hglt; have HO7 := Lib.hid hown'; have HG7 := Lib.hid hgrow; clear hown' hgrow hg hglt)
        have HB7 : Hid (Below w1.heap.size w5 w2) := Lib.hid (((Below.refl w1.heap.size w5).alloc (by omega) _).grown HG7.out (by simp; omega) (by intro q hq; exact (HO5.out.lt q hq).1))
        have E7 := Lib.hid (E5.out.stepB HOLD.out hB HB7.out)
        have HO8 : Hid (Own w2 w1.heap.size (.slice (some ⟨g, 0, none⟩) (ys.length + 1) cap') (ys ++ [⟨kk, bb, rr⟩])) := Lib.hid (by
          unfold Own
          rw [flat_append, List.length_append]
          exact HO7.out)
        go_roundw
        case rel => exact ⟨k + 1, ys ++ [⟨kk, bb, rr⟩], by omega, by go_num, by have := HY2.out; rw [this]; have := swp_length_le (xs.take (k + 1)); rw [List.length_take] at this; omega, by have := HB7.out.size; omega, HY2, HO8, E7⟩
        case measure => simp [intOf]; omega
      · have HE : Hid (decide (0 < x.r) = false) := Lib.hid (by simpa using hr)
        have HY2 : Hid (ys = swp (xs.take (k + 1))) := Lib.hid (by rw [swp_take_out HX.out hr, HY.out])
        clear hr
        obtain ⟨kk, bb, rr⟩ := x
        simp only at h0 h1 h2
        have q3 := row_new wr #[.string kk, .string bb, .int .i64 rr] 29
        have hE : Below wr.heap.size wr (wr.alloc (.cells #[.string kk, .string bb, .int .i64 rr] 29)) := below1 wr _
        have HE1 := Lib.hid hE
        have c0 := q3.cell (i := 0) rfl
        have c1 := q3.cell (i := 1) rfl
        have c2 := q3.cell (i := 2) rfl
        clear q3 hE
        go_wp2_with fail
        refine (HH.out _).mono ?_
        rintro e w5 ⟨rfl, hb5⟩
        rw [HE.out]
        have HB5 := Lib.hid (below_trans HE1.out hb5)
        have E5 := Lib.hid (E.out.step HB5.out)
        have HO5 := Lib.hid (ownsRow_below HO.out HB5.out)
        have hs5 := HB5.out.size
        clear c0 c1 c2 f1 f2 f3 hb5
        go_wp2
        go_roundw
        case rel => exact ⟨k + 1, ys, by omega, by go_num, hyl, by omega, HY2, HO5, E5⟩
        case measure => simp [intOf]; omega
    · have HYE : Hid (ys = swp xs) := Lib.hid (by rw [HY.out, List.take_of_length_le (by omega)])
      obtain ⟨g1, g2⟩ := E.out.put (.slice ao ys.length co)
      obtain ⟨a5, c5, hv5, -, hI5⟩ := InI.of_owns HO.out
      have HV5 := Lib.hid hv5
      have HI5 := Lib.hid (E.out.putI (.slice ao ys.length co) hI5 hB (fun ad had => by
        injection hv5 with h1
        exact own_base HO.out ad (h1.trans had)))
      have G2 := Lib.hid g2
      clear g2 hv5 hI5
      go_wp2
      exact bodyPost_ret (v := .tuple #[.agg #[.slice ao ys.length co], .int .i64 0]) (by simp [results, Tryd.results19, go_sem, g1]) rfl ⟨a5, c5, by rw [← HYE.out, HV5.out], by rw [← HYE.out]; exact HI5.out, G2.out⟩
end Go.Proofs.YtmaafhhdbhkplaaDoor
