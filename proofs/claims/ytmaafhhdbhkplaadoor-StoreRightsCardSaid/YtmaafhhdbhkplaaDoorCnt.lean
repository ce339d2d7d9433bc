/- Package store: why a reference is refused; a count changed. -/
import Derived.Test.YtmaafhhdbhkplaaDoorCat
import Derived.Test.YtmaafhhdbhkplaaDoorCor
namespace Go.Proofs.YtmaafhhdbhkplaaDoor
open Go.RowKit

/-- A store that is handed back: its items. -/
def StPost (ys : List Itm) (w : World) (e : Ending) (w' : World) : Prop := ∃ a cap, e = .returned (.agg #[.slice a ys.length cap]) ∧ InI w' a ys ∧ (∀ ad : Addr, a = some ad → w.heap.size ≤ ad.block) ∧ Below w.heap.size w w'
theorem own_base {w : World} {base : Nat} {a : Option Addr} {n c : Nat} {xs : List Itm} (h : Own w base (.slice a n c) xs) : ∀ ad : Addr, a = some ad → base ≤ ad.block := fun ad ha => (h.lt ad.block (by rw [ha]; rfl)).1
theorem InI.but {w w' : World} {R : Nat} {a : Option Addr} {xs : List Itm} (h : InI w a xs) (hb : But R w w') (hne : ∀ ad : Addr, a = some ad → ad.block ≠ R) : InI w' a xs := fun hx => by
  obtain ⟨b, off, ha, hl, hc⟩ := h hx
  exact ⟨b, off, ha, by rw [hb.size]; exact hl, fun j x hj => (hc j x hj).keep (hb.block b (hne _ ha))⟩

theorem flat_set : ∀ {xs : List Itm} {p : Nat} {x : Itm}, xs[p]? = some x → ∀ r : Int, flat (xs.set p ⟨x.k, x.b, r⟩) = (flat xs).set (p * 3 + 2) (.int .i64 r)
  | y :: l, 0, x, h, r => by
    obtain rfl := Option.some.inj h
    rfl
  | y :: l, p + 1, x, h, r => by
    rw [show (p + 1) * 3 + 2 = p * 3 + 2 + 1 + 1 + 1 by omega]
    simp only [flat, List.set_cons_succ]
    rw [flat_set (by simpa using h) r]
theorem own_set {w : World} {base g cap p : Nat} {xs : List Itm} {x : Itm} (h : Own w base (.slice (some ⟨g, 0, none⟩) xs.length cap) xs) (hx : xs[p]? = some x) (r : Int) :
    Own (w.setCell ⟨g, p * 3 + 2, none⟩ (.int .i64 r)) base (.slice (some ⟨g, 0, none⟩) xs.length cap) (xs.set p ⟨x.k, x.b, r⟩) := by
  have hlt := (List.getElem?_eq_some_iff.1 hx).1
  rcases h.2 with ⟨h0, -⟩ | ⟨g', cap', cur, hv, hb, hh, hc, hm, hs, ht⟩
  · cases h0
  · injection hv with hv1 hv2 hv3
    obtain rfl : g = g' := by injection hv1 with h; injection h
    subst hv3
    refine ⟨by rw [flat_length, List.length_set], .inr ⟨g, cap, cur.setIfInBounds (p * 3 + 2) (.int .i64 r), by rw [List.length_set], hb, ?_, by rw [List.length_set]; exact hc, hm, by simpa using hs, ?_⟩⟩
    · simp [World.setCell, Array.getElem?_modify, hh]
    · rw [flat_set hx, ← ht, List.length_set, Array.toList_setIfInBounds, List.take_set]

theorem own_ref {w : World} {base g cap p : Nat} {xs : List Itm} {x : Itm} (h : Own w base (.slice (some ⟨g, 0, none⟩) xs.length cap) xs) (hx : xs[p]? = some x) :
    w.cell? ⟨g, p * 3 + 2, none⟩ = some (.int .i64 x.r) ∧ w.frozen? ⟨g, p * 3 + 2, none⟩ = false ∧ base ≤ g ∧ g < w.heap.size := by
  obtain ⟨a, c, hv, -, hI⟩ := InI.of_owns h
  obtain ⟨b, off, ha, -, -, -, h2⟩ := hI.at_ hx
  injection hv with hv1 hv2 hv3
  rw [ha] at hv1
  obtain ⟨rfl, rfl⟩ : g = b ∧ 0 = off := by simpa using hv1
  rw [Nat.zero_add] at h2
  have hlt := (List.getElem?_eq_some_iff.1 hx).1
  rcases h.2 with ⟨h0, -⟩ | ⟨g', cap', cur, hv, hb, hh, -⟩
  · cases h0
  · injection hv with hv1
    obtain rfl : g = g' := by injection hv1 with h; injection h
    exact ⟨h2, by simp [World.frozen?, hh], hb, (Array.getElem?_eq_some_iff.1 hh).1⟩

set_option maxHeartbeats 1600000 in
theorem refusal_found (w : World) (a : Option Addr) (cap p : Nat) (xs : List Itm) (x : Itm) (hIn : InI w a xs) (ht : Tab w) (hx : xs[p]? = some x) (hl : xs.length ≤ 4096) (hs : Snd x) :
    Calls Tryd.prog 28 #[.agg #[.slice a xs.length cap], .int .i64 p, .bool true] w fun e w' => e = .returned (.int .i64 (if corB x = true then 61 else if x.r = 1073741824 then 130 else 0)) ∧ Below w.heap.size w w' := by
  have hlt := (List.getElem?_eq_some_iff.1 hx).1
  obtain ⟨b, off, rfl, hb, h0, h1, h2⟩ := hIn.at_ hx
  have hW := below1 w (.cells #[.slice (some ⟨b, off, none⟩) xs.length cap] 24)
  have HW := Lib.hid hW
  have h0' := (hW.cell hb).trans h0
  have h1' := (hW.cell hb).trans h1
  have h2' := (hW.cell hb).trans h2
  have HC := Lib.hid (corrupt_any x (w.alloc (.cells #[.slice (some ⟨b, off, none⟩) xs.length cap] 24)) (ht.below hW) hs.b2)
  have hr1 := hs.r1
  have hr2 := hs.r2
  have hszw : b < w.heap.size + 1 := by omega
  obtain ⟨kk, bb, rr⟩ := x
  simp only at h0' h1' h2' h0 h1 h2 hr1 hr2
  clear hx hIn ht hs hW
  generalize corB ⟨kk, bb, rr⟩ = cb at *
  cases cb with
  | true =>
    go_enter Tryd.func28, Tryd.ntmps28
    go_wp2_with fail
    refine HC.out.mono ?_
    rintro e w1 ⟨rfl, hb1⟩
    go_wp2
    go_ret
    exact ⟨rfl, below_trans HW.out hb1⟩
  | false =>
    by_cases hr : rr = 1073741824
    · have hrb : (rr == 1073741824) = true := by simpa using hr
      have HR := Lib.hid hr
      clear hr
      go_enter Tryd.func28, Tryd.ntmps28
      go_wp2_with fail
      refine HC.out.mono ?_
      rintro e w1 ⟨rfl, hb1⟩
      have g2 := (hb1.cell (p := ⟨b, off + p * 3 + 2, none⟩) (by simpa using hszw)).trans h2'
      have g3 := (hb1.cell (p := ⟨w.heap.size, 0, none⟩) (by simp)).trans ((row_new w #[.slice (some ⟨b, off, none⟩) xs.length cap] 24).cell rfl)
      have HB1 := Lib.hid hb1
      clear hb1
      go_wp2
      go_ret
      exact ⟨by first | rfl | (simp only [HR.out]; rfl), below_trans HW.out HB1.out⟩
    · have hrb : (rr == 1073741824) = false := by simpa using hr
      have HR := Lib.hid hr
      clear hr
      go_enter Tryd.func28, Tryd.ntmps28
      go_wp2_with fail
      refine HC.out.mono ?_
      rintro e w1 ⟨rfl, hb1⟩
      have g2 := (hb1.cell (p := ⟨b, off + p * 3 + 2, none⟩) (by simpa using hszw)).trans h2'
      have g3 := (hb1.cell (p := ⟨w.heap.size, 0, none⟩) (by simp)).trans ((row_new w #[.slice (some ⟨b, off, none⟩) xs.length cap] 24).cell rfl)
      have HB1 := Lib.hid hb1
      clear hb1
      go_wp2
      go_ret
      exact ⟨by first | rfl | (rw [if_neg (by decide), if_neg HR.out]; rfl), below_trans HW.out HB1.out⟩

set_option maxHeartbeats 1600000 in
theorem refusal_none (w : World) (a : Option Addr) (cap n p : Nat) (hl : n ≤ 4096) (hp : p ≤ 4096) :
    Calls Tryd.prog 28 #[.agg #[.slice a n cap], .int .i64 p, .bool false] w fun e w' => e = .returned (.int .i64 (if n = 4096 then 130 else 0)) ∧ Below w.heap.size w w' := by
  by_cases hn : n = 4096
  · have hb : ((n : Int) == 4096) = true := by rw [beq_iff_eq]; omega
    have HN := Lib.hid hn
    clear hn
    go_enter Tryd.func28, Tryd.ntmps28
    go_wp2
    go_ret
    exact ⟨by first | rfl | (rw [if_pos HN.out]; rfl), below1 _ _⟩
  · have hb : ((n : Int) == 4096) = false := by rw [beq_eq_false_iff_ne]; omega
    have HN := Lib.hid hn
    clear hn
    go_enter Tryd.func28, Tryd.ntmps28
    go_wp2
    go_ret
    exact ⟨by first | rfl | (rw [if_neg HN.out]; rfl), below1 _ _⟩

set_option maxHeartbeats 1600000 in
theorem counted_any (w : World) (a : Option Addr) (cap p : Nat) (xs : List Itm) (x : Itm) (m : Int) (hIn : InI w a xs) (hx : xs[p]? = some x) (hl : xs.length ≤ 4096) (hs : Snd x) (hm1 : -1 ≤ m) (hm2 : m ≤ 1) :
    Calls Tryd.prog 29 #[.agg #[.slice a xs.length cap], .int .i64 p, .int .i64 m] w (StPost (xs.set p ⟨x.k, x.b, x.r + m⟩) w) := by
  have hlt := (List.getElem?_eq_some_iff.1 hx).1
  obtain ⟨b, off, rfl, hb, -⟩ := hIn.at_ hx
  have HC := Lib.hid (clone_any ((w.alloc (.cells #[.slice (some ⟨b, off, none⟩) xs.length cap] 24)).alloc (.cells #[.slice none 0 0] 24)) b off cap xs (hIn.below (below2 _ _ _)) hl)
  have HX := Lib.hid hx
  have hr1 := hs.r1
  have hr2 := hs.r2
  have hrow := (row_new (w.alloc (.cells #[.slice (some ⟨b, off, none⟩) xs.length cap] 24)) #[.slice none 0 0] 24)
  have HROW := Lib.hid hrow
  clear hx hIn hs hrow
  go_enter Tryd.func29, Tryd.ntmps29
  go_wp2_with fail
  refine HC.out.mono ?_
  rintro e w1 ⟨v, rfl, hown, hb1⟩
  obtain ⟨a1, cap1, rfl, hcap, hmax, hg⟩ := owns_form hown
  obtain ⟨g, rfl⟩ := hg (by omega)
  obtain ⟨hc, hf, hgb, hgl⟩ := own_ref hown HX.out
  have hgs : w.heap.size + 2 ≤ g := by simpa using hgb
  have hR1 : Row w1 (w.heap.size + 1) 24 [.slice none 0 0] := by
    have := HROW.out.below hb1
    simpa using this
  have hbut : But g w1 (w1.setCell ⟨g, p * 3 + 2, none⟩ (.int .i64 (x.r + m))) := (But.refl g w1).set _ _
  have hR2 := hbut.row hR1 (by omega)
  have hown2 := own_set hown HX.out (x.r + m)
  have hbut3 : But (w.heap.size + 1) (w1.setCell ⟨g, p * 3 + 2, none⟩ (.int .i64 (x.r + m))) ((w1.setCell ⟨g, p * 3 + 2, none⟩ (.int .i64 (x.r + m))).setCell ⟨w.heap.size + 1, 0, none⟩ (.slice (some ⟨g, 0, none⟩) xs.length cap1)) := (But.refl _ _).set _ _
  have hown3 := owns_but hown2 hbut3 (by simp)
  obtain ⟨a4, c4, hv4, -, hI4⟩ := InI.of_owns hown3
  have HV4 := Lib.hid hv4
  have HI4 := Lib.hid hI4
  have HB4 : Hid (Below w.heap.size w ((w1.setCell ⟨g, p * 3 + 2, none⟩ (.int .i64 (x.r + m))).setCell ⟨w.heap.size + 1, 0, none⟩ (.slice (some ⟨g, 0, none⟩) xs.length cap1))) := Lib.hid ((below_trans (below2 w _ _) hb1).trans ((hbut.below (B := w.heap.size) (by omega)).trans (hbut3.below (by omega))))
  have r2 := hR2.cell (i := 0) rfl
  have t2 := hR2.thaw 0
  have r3 := (hR2.set 0 (.slice (some ⟨g, 0, none⟩) xs.length cap1)).cell (i := 0) rfl
  have hrm : -9223372036854775808 ≤ x.r + m := by omega
  have hrM : x.r + m ≤ 9223372036854775807 := by omega
  clear hown hb1 hR1 hbut hR2 hown2 hbut3 hown3 hv4 hI4
  go_wp2
  exact bodyPost_ret (v := .agg #[.slice (some ⟨g, 0, none⟩) xs.length cap1]) (by simp [results, Tryd.results29, go_sem, r3]) rfl ⟨a4, c4, by rw [HV4.out], HI4.out, fun ad had => by
    have := HV4.out
    injection this with h1
    rw [had] at h1
    obtain rfl := Option.some.inj h1
    show w.heap.size ≤ g
    omega, HB4.out⟩
end Go.Proofs.YtmaafhhdbhkplaaDoor
