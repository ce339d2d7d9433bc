/- Rotten of package store; slices of strings that are alike. -/
import Derived.Test.YtmaafhhdbhkplaaDoorLGet
namespace Go.Proofs.YtmaafhhdbhkplaaDoor
open Go.RowKit

/-- The keys of the corrupt items. -/
def rotF (xs : List Itm) : List BA := (xs.filter corB).map Itm.k
theorem rot_take_in {xs : List Itm} {k : Nat} {x : Itm} (h : xs[k]? = some x) (hc : corB x = true) : rotF (xs.take (k + 1)) = rotF (xs.take k) ++ [x.k] := by
  obtain ⟨hlt, rfl⟩ := List.getElem?_eq_some_iff.1 h
  unfold rotF
  rw [List.take_succ_eq_append_getElem hlt, List.filter_append, List.map_append]; simp [hc]
theorem rot_take_out {xs : List Itm} {k : Nat} {x : Itm} (h : xs[k]? = some x) (hc : corB x = false) : rotF (xs.take (k + 1)) = rotF (xs.take k) := by
  obtain ⟨hlt, rfl⟩ := List.getElem?_eq_some_iff.1 h
  unfold rotF
  rw [List.take_succ_eq_append_getElem hlt, List.filter_append, List.map_append]; simp [hc]
theorem rotF_length_le (xs : List Itm) : (rotF xs).length ≤ xs.length := by
  unfold rotF
  rw [List.length_map]; exact List.length_filter_le _ _
theorem cell_n1 (w : World) (x : Value) (t : TypeId) {B : Nat} (hB : w.heap.size = B) : ∀ j v, [x][j]? = some v → (w.alloc (.cells #[x] t)).cell? (Addr.add ⟨B, 0, none⟩ j) = some v := by subst hB; exact cell_new1 w x t
theorem LEnv.stepB {w wi wj : World} {a : Option Addr} {cap : Nat} {xs : List Itm} (h : LEnv w wi a cap xs) (old : ∀ ad : Addr, a = some ad → ad.block < w.heap.size ∨ xs = []) {B : Nat} (hB : w.heap.size < B) (hb : Below B wi wj) : LEnv w wj a cap xs := by
  refine ⟨h.box.keep (hb.block _ (by omega)), ⟨fun hx => ?_, h.arg.szs, h.arg.len, h.arg.cap1, h.arg.cap2, h.arg.nil⟩, h.tab.keep (hb.block 0 (by omega)), h.bel.trans (hb.mono (by omega))⟩
  obtain ⟨b, off, ha, hl, hc⟩ := h.arg.its hx
  have hlt : b < w.heap.size := by
    rcases old _ ha with h1 | h1
    · exact h1
    · exact absurd h1 hx
  exact ⟨b, off, ha, Nat.lt_of_lt_of_le hl hb.size, fun j x hj => (hc j x hj).keep (hb.block b (by omega))⟩
theorem LEnv.lt {w wi : World} {a : Option Addr} {cap : Nat} {xs : List Itm} (h : LEnv w wi a cap xs) : w.heap.size < wi.heap.size := h.box.lt

set_option maxHeartbeats 1600000 in
theorem likes_any (w : World) (a1 a2 : Option Addr) (c1 c2 : Nat) (xs : List BA) (h1 : InS w a1 xs) (h2 : InS w a2 xs) (hl : xs.length ≤ 1000000) :
    Calls Tryd.prog 12 #[.slice a1 xs.length c1, .slice a2 xs.length c2] w fun e w' => e = .returned (.bool true) ∧ Below w.heap.size w w' := by
  have H1 := Lib.hid h1
  have H2 := Lib.hid h2
  clear h1 h2
  go_enter Tryd.func12, Tryd.ntmps12
  go_wp2
  go_loopw [13] (fun i wr => ∃ k m : Nat, k ≤ xs.length ∧ i = .int .i64 k ∧ wr = w.drewN m) (fun i _ => xs.length - (intOf i).toNat)
  case atStart => exact ⟨0, 0, by omega, rfl, rfl⟩
  case round =>
    obtain ⟨k, m, hk, rfl, rfl⟩ := hrel
    by_cases hlt : k < xs.length
    · have hne : xs ≠ [] := by intro h; rw [h] at hlt; simp at hlt
      obtain ⟨b1, o1, rfl, hb1, hc1⟩ := H1.out hne
      obtain ⟨b2, o2, rfl, hb2, hc2⟩ := H2.out hne
      have i1 := hc1 k hlt
      have i2 := hc2 k hlt
      clear hc1 hc2 hne
      generalize xs[k] = x at *
      go_wp2
      go_quiet (fail)
      go_wp2
      go_roundw
      case rel => exact ⟨k + 1, _, by omega, by go_num, rfl⟩
      case measure => simp [intOf]; omega
    · go_wp2
      go_ret
      exact ⟨rfl, below_drewN (Below.refl _ _) m⟩

/-- A slice of keys that the call made. -/
def KsPost (ks : List BA) (w : World) (e : Ending) (w' : World) : Prop := ∃ a c, e = .returned (.slice a ks.length c) ∧ InS w' a ks ∧ Below w.heap.size w w'
set_option maxHeartbeats 1600000 in
set_option maxRecDepth 100000 in
theorem rotten_no (w : World) (a : Option Addr) (cap : Nat) (xs : List Itm) (ha : Arg w a cap xs) (ht : Tab w) (hr : ¬ Rgt xs) :
    Calls Tryd.prog 13 #[.agg #[.slice a xs.length cap]] w (KsPost [] w) := by
  have HR := Lib.hid hr
  have E0 := Lib.hid (GEnv.new ha ht)
  have f1 := E0.out.box.cell (i := 0) rfl
  have hlen := ha.len
  clear ha ht hr
  go_enter Tryd.func13, Tryd.ntmps13
  go_wp2_with fail
  generalize w.alloc (.cells #[.slice a xs.length cap] 24) = w0 at *
  refine (right_no w0 a cap xs HR.out hlen E0.out.arg.szs E0.out.arg.its).mono ?_
  rintro e w1 ⟨rfl, hb1⟩
  have E1 := Lib.hid (E0.out.step hb1)
  clear f1 hb1
  go_wp2
  go_ret
  exact ⟨none, 0, rfl, InS.nil _ _, E1.out.bel⟩

set_option maxHeartbeats 3200000 in
set_option maxRecDepth 100000 in
theorem rotten_yes (w : World) (a : Option Addr) (cap : Nat) (xs : List Itm) (ha : Arg w a cap xs) (ht : Tab w) (hr : Rgt xs) :
    Calls Tryd.prog 13 #[.agg #[.slice a xs.length cap]] w (KsPost (rotF xs) w) := by
  obtain ⟨i0, hi, hz0, hz1, hz2⟩ := info_parts info9
  have HR := Lib.hid hr
  have hl4 := hr.1
  have E0 := Lib.hid (GEnv.new ha ht)
  have f1 := E0.out.box.cell (i := 0) rfl
  have HOLD := Lib.hid (inI_old ha.its)
  clear ha ht hr
  go_enter Tryd.func13, Tryd.ntmps13
  go_wp2_with fail
  generalize w.alloc (.cells #[.slice a xs.length cap] 24) = w0 at *
  refine (right_yes w0 a cap xs HR.out E0.out.arg.szs E0.out.arg.its).mono ?_
  rintro e w1 ⟨rfl, hb1⟩
  have G1 := E0.out.step hb1
  have E1 : Hid (LEnv w w1 a cap xs) := Lib.hid ⟨G1.box, G1.arg, G1.tab, G1.bel⟩
  clear f1 G1
  have f1 := E1.out.box.cell (i := 0) rfl
  have hB := E1.out.lt
  clear hb1
  go_wp2
  clear f1
  go_loopw [3, 12] (fun s i wr => ∃ (k : Nat) (ks : List BA), k ≤ xs.length ∧ i = .int .i64 k ∧ ks.length ≤ 4096 ∧ w1.heap.size ≤ wr.heap.size ∧ Hid (ks = rotF (xs.take k)) ∧ Hid (wr.ownsRow w1.heap.size 9 1 s ks.length (strs ks)) ∧ Hid (LEnv w wr a cap xs)) (fun _ i _ => xs.length - (intOf i).toNat)
  case atStart => exact ⟨0, [], by omega, rfl, by simp, by omega, Lib.hid (by simp [rotF]), Lib.hid (World.ownsRow_nil _ _ _ _), E1⟩
  case round =>
    obtain ⟨k, ks, hk, rfl, hyl, hsw, HY, HO, E⟩ := hrel
    obtain ⟨ao, co, rfl, -⟩ := owns_form HO.out
    have f1 := E.out.box.cell (i := 0) rfl
    by_cases hlt : k < xs.length
    · obtain ⟨x, hx⟩ : ∃ x, xs[k]? = some x := ⟨_, List.getElem?_eq_getElem hlt⟩
      obtain ⟨b, off, rfl, hbl, h0, h1, h2⟩ := E.out.arg.its.at_ hx
      have HX := Lib.hid hx
      have HB2 := Lib.hid (HR.out.snd hx).b2
      have HH := Lib.hid (fun W (t : Tab W) => corrupt_any x W t HB2.out)
      clear hx
      cases hc : corB x with
      | true =>
        have HE := Lib.hid hc
        have HY2 : Hid (ks ++ [x.k] = rotF (xs.take (k + 1))) := Lib.hid (by rw [rot_take_in HX.out hc, HY.out])
        clear hc
        obtain ⟨kk, bb, rr⟩ := x
        simp only at h0 h1 h2
        have q3 := row_new wr #[.string kk, .string bb, .int .i64 rr] 29
        have HQ3 := Lib.hid q3
        have hE : Below wr.heap.size wr (wr.alloc (.cells #[.string kk, .string bb, .int .i64 rr] 29)) := below1 wr _
        have HE1 := Lib.hid hE
        have c0 := q3.cell (i := 0) rfl
        have c1 := q3.cell (i := 1) rfl
        have c2 := q3.cell (i := 2) rfl
        have HT1 := Lib.hid (E.out.tab.below hE)
        clear q3 hE
        go_wp2_with fail
        refine (HH.out _ HT1.out).mono ?_
        rintro e w5 ⟨rfl, hb5⟩
        rw [HE.out]
        have HB5 := Lib.hid (below_trans HE1.out hb5)
        have q5 := HQ3.out.below hb5
        have E5 := Lib.hid (E.out.step HB5.out)
        have hown := ownsRow_below HO.out HB5.out
        have HO5 := Lib.hid hown
        have hs5 := HB5.out.size
        clear c0 c1 c2 f1 hb5
        have c0 := q5.cell (i := 0) rfl
        clear q5
        go_wp2_with (at_builtin; refine wpList_append_lies _ rfl _ _ 26 rfl w1.heap.size 9 i0 (.string ByteArray.empty) 1 16 Tryd.underlying26 hi hz0 hz1 hz2 rfl (by decide) _ _ _ rfl (hown.alloc _) _ 1 1 [.string kk] rfl rfl (cell_n1 _ _ _ (by simp)) (by simp [Value.oneCell']) (by decide) (by unfold maxLen; omega) (by omega) (by simp; omega) _ rfl ?_; intro g cap' w2 hown' hgrow hg hglt; have HO7 := Lib.hid hown'; have HG7 := Lib.hid hgrow; clear hown' hgrow hg hglt)
        have HB7 : Hid (Below w1.heap.size w5 w2) := Lib.hid (((Below.refl w1.heap.size w5).alloc (by omega) _).grown HG7.out (by simp; omega) (by intro q hq; exact (HO5.out.lt q hq).1))
        have E7 := Lib.hid (E5.out.stepB HOLD.out hB HB7.out)
        have HO8 : Hid (w2.ownsRow w1.heap.size 9 1 (.slice (some ⟨g, 0, none⟩) (ks.length + 1) cap') (ks ++ [kk]).length (strs (ks ++ [kk]))) := Lib.hid (by
          have := HO7.out
          simpa using this)
        go_roundw
        case rel => exact ⟨k + 1, ks ++ [kk], by omega, by go_num, by have := HY2.out; rw [this]; have := rotF_length_le (xs.take (k + 1)); rw [List.length_take] at this; omega, by have := HB7.out.size; omega, HY2, HO8, E7⟩
        case measure => simp [intOf]; omega
      | false =>
        have HE := Lib.hid hc
        have HY2 : Hid (ks = rotF (xs.take (k + 1))) := Lib.hid (by rw [rot_take_out HX.out hc, HY.out])
        clear hc
        obtain ⟨kk, bb, rr⟩ := x
        simp only at h0 h1 h2
        have q3 := row_new wr #[.string kk, .string bb, .int .i64 rr] 29
        have HQ3 := Lib.hid q3
        have hE : Below wr.heap.size wr (wr.alloc (.cells #[.string kk, .string bb, .int .i64 rr] 29)) := below1 wr _
        have HE1 := Lib.hid hE
        have c0 := q3.cell (i := 0) rfl
        have c1 := q3.cell (i := 1) rfl
        have c2 := q3.cell (i := 2) rfl
        have HT1 := Lib.hid (E.out.tab.below hE)
        clear q3 hE
        go_wp2_with fail
        refine (HH.out _ HT1.out).mono ?_
        rintro e w5 ⟨rfl, hb5⟩
        rw [HE.out]
        have HB5 := Lib.hid (below_trans HE1.out hb5)
        have q5 := HQ3.out.below hb5
        have E5 := Lib.hid (E.out.step HB5.out)
        have hown := ownsRow_below HO.out HB5.out
        have HO5 := Lib.hid hown
        have hs5 := HB5.out.size
        clear c0 c1 c2 f1 hb5
        have c0 := q5.cell (i := 0) rfl
        clear q5
        clear hown
        go_wp2
        go_roundw
        case rel => exact ⟨k + 1, ks, by omega, by go_num, hyl, by omega, HY2, HO5, E5⟩
        case measure => simp [intOf]; omega
    · have HYE : Hid (ks = rotF xs) := Lib.hid (by rw [HY.out, List.take_of_length_le (by omega)])
      obtain ⟨a5, c5, hv5, -, hI5⟩ := InS.of_owns HO.out
      have HV5 := Lib.hid hv5
      have HI5 := Lib.hid hI5
      clear hv5 hI5
      go_wp2
      go_ret
      exact ⟨a5, c5, by rw [← HYE.out, ← HV5.out]; rfl, by rw [← HYE.out]; exact HI5.out, E.out.bel⟩
end Go.Proofs.YtmaafhhdbhkplaaDoor
