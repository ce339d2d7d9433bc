/- The document's Above, crown and Root. -/
import Derived.Test.YtnmhmemlgibedaaDoorMade
namespace Go.Proofs.YtnmhmemlgibedaaDoor
open Go.RowKit

/-- A slice of strings that is no part of the Made in block M. -/
def InO (w : World) (M : Nat) (a : Option Addr) (xs : List BA) : Prop :=
  xs ≠ [] → ∃ b off, a = some ⟨b, off, none⟩ ∧ Off w M b ∧ ∀ j (h : j < xs.length), w.cell? ⟨b, off + j, none⟩ = some (.string xs[j])
theorem InO.nil (w : World) (M : Nat) (a : Option Addr) : InO w M a [] := fun h => absurd rfl h
theorem InO.ins {w : World} {M : Nat} {a : Option Addr} {xs : List BA} (h : InO w M a xs) : InS w a xs := fun hx => by
  obtain ⟨b, off, ha, ho, hc⟩ := h hx
  exact ⟨b, off, ha, ho.lt, hc⟩
theorem InO.mv {w w' : World} {M : Nat} {a : Option Addr} {xs : List BA} (h : InO w M a xs) (hv : Mv M w w') : InO w' M a xs := fun hx => by
  obtain ⟨b, off, ha, ho, hc⟩ := h hx
  exact ⟨b, off, ha, hv.off b ho, fun j hj => (World.cell?_of_block (a := ⟨b, off + j, none⟩) (hv.keep b ho)).trans (hc j hj)⟩
theorem InO.of_owns {w : World} {M base : Nat} {v : Value} {xs : List BA} (h : w.ownsRow base 9 1 v xs.length (strs xs)) (ho : ∀ g, v.ownBlock = some g → Off w M g) : ∃ a cap, v = .slice a xs.length cap ∧ xs.length ≤ cap ∧ InO w M a xs := by
  obtain ⟨a, cap, rfl, hle, hin⟩ := InS.of_owns h
  refine ⟨a, cap, rfl, hle, fun hx => ?_⟩
  obtain ⟨b, off, rfl, hb, hc⟩ := hin hx
  refine ⟨b, off, rfl, ho b ?_, hc⟩
  rcases h.2 with ⟨hv, -⟩ | ⟨g, cap', cur, hv, -⟩
  · cases hv
  · injection hv with h1 h2 h3
    injection h1 with h1
    injection h1 with h1
    rw [h1]; rfl

/-- A row that is no part of the Made grows. -/
theorem made_grown {W W2 : World} {M : Nat} {ts : List BA} {o : Obj} {row : Option Nat} (h : MadeAt W M ts) (hg : (W.alloc o).grownBy W2 row) (ho : ∀ g, row = some g → Off W M g) : MadeAt W2 M ts ∧ (∀ g, Off W M g → Off W2 M g) ∧ Off W2 M W.heap.size ∧ (W.heap.size + 1 < W2.heap.size → Off W2 M (W.heap.size + 1)) := by
  have hsz : W.heap.size + 1 ≤ W2.heap.size := by have := hg.size; simpa using this
  obtain ⟨v, hr, hw⟩ := h
  have hM : W2.heap[M]? = W.heap[M]? := by
    rw [hg.block M (by simp; have := hr.lt; omega) (fun e => (ho M e.symm).ne rfl)]
    exact Below.heap_alloc _ _ _ hr.lt
  have hr2 : Row W2 M 31 [v] := hr.keep hM
  have hw2 : W2.ownsRow (M + 1) 9 1 v ts.length (strs ts) := by
    refine ⟨hw.1, ?_⟩
    rcases hw.2 with h0 | ⟨g, cap, cur, hv, hbs, hh, hrr⟩
    · exact .inl h0
    · have hlt := (Array.getElem?_eq_some_iff.1 hh).1
      refine .inr ⟨g, cap, cur, hv, hbs, ?_, hrr⟩
      rw [hg.block g (by simp; omega) (fun e => (ho g e.symm).own v hr (by rw [hv]; rfl)), ← hh]
      exact Below.heap_alloc _ _ _ hlt
  refine ⟨⟨v, hr2, hw2⟩, fun g hgo => ⟨by have := hgo.lt; omega, hgo.ne, fun v' hv' e => ?_⟩, ⟨by omega, by have := hr.lt; omega, fun v' hv' e => ?_⟩, fun hlt => ⟨hlt, by have := hr.lt; omega, fun v' hv' e => ?_⟩⟩
  · obtain rfl := row_inj hr2 hv'
    exact hgo.own _ hr e
  · obtain rfl := row_inj hr2 hv'
    have := (hw.lt _ e).2
    omega
  · obtain rfl := row_inj hr2 hv'
    have := (hw.lt _ e).2
    omega
/-- How far the row above has come, in memory. -/
structure AM (w : World) (M : Nat) (ts ys us : List BA) (v : Value) (W : World) : Prop where
  own : W.ownsRow w.heap.size 9 1 v ys.length (strs ys)
  voff : ∀ g, v.ownBlock = some g → Off W M g
  made : MadeAt W M (ts ++ us)
  mv : Mv M w W
theorem AM.snoc {w W W2 : World} {M : Nat} {ts ys us : List BA} {v : Value} {x : BA} {g cap : Nat} {o : Obj} (h : AM w M ts ys us v W)
    (hown : W2.ownsRow w.heap.size 9 1 (.slice (some ⟨g, 0, none⟩) (ys.length + 1) cap) (ys.length + 1) (strs ys ++ [.string x])) (hg : (W.alloc o).grownBy W2 v.ownBlock) (hgg : v.ownBlock = some g ∨ g = W.heap.size + 1) (hlt : g < W2.heap.size) :
    AM w M ts (ys ++ [x]) us (.slice (some ⟨g, 0, none⟩) (ys.length + 1) cap) W2 := by
  obtain ⟨m1, m2, m3, m4⟩ := made_grown h.made hg h.voff
  have hsz : W.heap.size + 1 ≤ W2.heap.size := by have := hg.size; simpa using this
  refine ⟨by simpa using hown, fun g' e => ?_, m1, ?_⟩
  · obtain rfl : g = g' := Option.some.inj e
    rcases hgg with hgg | hgg
    · exact m2 _ (h.voff _ hgg)
    · subst hgg; exact m4 hlt
  · refine ⟨hg.os.trans h.mv.os, hg.tape.trans h.mv.tape, hg.output.trans h.mv.output, by have := h.mv.size; omega, fun k hk => m2 k (h.mv.off k hk), fun k hk => ?_⟩
    rw [← h.mv.keep k hk, hg.block k (by simp; have := hk.lt; have := h.mv.size; omega) (fun e => by have := (h.own.lt k e.symm).1; have := hk.lt; omega)]
    exact Below.heap_alloc _ _ _ (Nat.lt_of_lt_of_le hk.lt h.mv.size)
/-- A text more. -/
theorem AM.text {w W W' : World} {M : Nat} {ts ys us : List BA} {v : Value} {s : BA} (h : AM w M ts ys us v W) (hm : MadeAt W' M (ts ++ us ++ [s])) (hv : Mv M W W') : AM w M ts ys (us ++ [s]) v W' := by
  refine ⟨⟨h.own.1, ?_⟩, fun g e => hv.off g (h.voff g e), by rw [← List.append_assoc]; exact hm, h.mv.trans hv⟩
  rcases h.own.2 with h0 | ⟨g, cap, cur, hvv, hbs, hh, hr⟩
  · exact .inl h0
  · exact .inr ⟨g, cap, cur, hvv, hbs, (hv.keep g (h.voff g (by rw [hvv]; rfl))).trans hh, hr⟩
theorem Mv.drew (M : Nat) (w : World) : Mv M w w.drew := ⟨rfl, rfl, rfl, Nat.le_refl _, fun _ h => ⟨h.lt, h.ne, fun v hv => h.own v hv⟩, fun _ _ => rfl⟩
theorem AM.drew {w W : World} {M : Nat} {ts ys us : List BA} {v : Value} (h : AM w M ts ys us v W) : AM w M ts ys us v W.drew := by
  obtain ⟨x, h1, h2⟩ := h.made
  exact ⟨h.own, fun g e => (Mv.drew M W).off g (h.voff g e), ⟨x, h1, h2⟩, h.mv.trans (Mv.drew M W)⟩
theorem am_new {w : World} {M : Nat} {ts : List BA} (h : MadeAt w M ts) : AM w M ts [] [] (.slice (some ⟨w.heap.size, 0, none⟩) 0 0) (w.alloc (.cells #[] 9)) :=
  ⟨World.ownsRow_made w #[] 0 (Nat.le_refl _) (by unfold maxLen; omega) rfl, fun g e => by
    obtain rfl : w.heap.size = g := Option.some.inj e
    exact h.off_new (below1 _ _) (Nat.le_refl _) (by simp), by rw [List.append_nil]; exact h.below (below1 _ _), Mv.of_below h.lt (below1 _ _)⟩

/-- The rest of a row, at an even place. -/
structure AP (xs ys us : List BA) (k : Nat) : Prop where
  all : above Dg xs = ys ++ above Dg (xs.drop k)
  txt : aboveT xs = us ++ aboveT (xs.drop k)
theorem AP.two {xs ys us : List BA} {k : Nat} (h : AP xs ys us k) (h1 : k + 1 < xs.length) : AP xs (ys ++ [Dg (pairT xs[k] xs[k + 1])]) (us ++ [pairT xs[k] xs[k + 1]]) (k + 2) := by
  have e : xs.drop k = xs[k] :: xs[k + 1] :: xs.drop (k + 2) := by
    rw [List.drop_eq_getElem_cons (show k < xs.length by omega), List.drop_eq_getElem_cons h1]
  exact ⟨by rw [h.all, e, above]; simp, by rw [h.txt, e, aboveT]; simp⟩
theorem AP.one {xs ys us : List BA} {k : Nat} (h : AP xs ys us k) (h1 : k + 1 = xs.length) : AP xs (ys ++ [xs[k]]) us (k + 2) := by
  have e : xs.drop k = [xs[k]] := by
    rw [List.drop_eq_getElem_cons (show k < xs.length by omega), List.drop_eq_nil_of_le (by omega)]
  have e2 : xs.drop (k + 2) = [] := List.drop_eq_nil_of_le (by omega)
  exact ⟨by rw [h.all, e, e2]; simp [above], by rw [h.txt, e, e2]; simp [aboveT]⟩
theorem AP.done {xs ys us : List BA} {k : Nat} (h : AP xs ys us k) (h1 : xs.length ≤ k) : above Dg xs = ys ∧ aboveT xs = us := by
  have e : xs.drop k = [] := List.drop_eq_nil_of_le h1
  exact ⟨by rw [h.all, e]; simp [above], by rw [h.txt, e]; simp [aboveT]⟩

set_option maxHeartbeats 3200000 in
set_option maxRecDepth 100000 in
theorem above_any (w : World) (M : Nat) (ts : List BA) (a : Option Addr) (cap : Nat) (xs : List BA) (hm : MadeAt w M ts) (ht : ts.length + xs.length ≤ 100000) (hs : AllS xs) (hIn : InO w M a xs) :
    Calls Tryd.prog 28 #[.pointer (some ⟨M, 0, none⟩), .slice a xs.length cap] w fun e w' => ∃ a' cap', e = .returned (.slice a' (above Dg xs).length cap') ∧ (above Dg xs).length ≤ cap' ∧ InO w' M a' (above Dg xs) ∧ (∀ b off, a' = some ⟨b, off, none⟩ → w.heap.size ≤ b) ∧ MadeAt w' M (ts ++ aboveT xs) ∧ Mv M w w' := by
  obtain ⟨i0, hi, hz0, hz1, hz2⟩ := info_parts info9
  have HIN := Lib.hid hIn
  have HS := Lib.hid hs
  have H0 := Lib.hid (am_new hm)
  have hl : xs.length ≤ 100000 := by omega
  clear hIn hm hs
  go_enter Tryd.func28, Tryd.ntmps28
  go_wp2
  go_loopw [5, 6] (fun v i wr => ∃ (k : Nat) (ys us : List BA) (pa : Option Addr) (pc : Nat), i = .int .i64 (k : Nat) ∧ v = .slice pa ys.length pc ∧ k ≤ xs.length + 1 ∧ ys.length ≤ k ∧ us.length ≤ k ∧ Hid (AP xs ys us k) ∧ Hid (AM w M ts ys us v wr)) (fun _ i _ => xs.length + 1 - (intOf i).toNat)
  case atStart => exact ⟨0, [], [], _, 0, rfl, rfl, by omega, by simp, by simp, Lib.hid ⟨rfl, rfl⟩, H0⟩
  case round =>
    clear H0
    obtain ⟨k, ys, us, pa, pc, rfl, rfl, hk, hyk, huk, HP, HA⟩ := hrel
    by_cases h2 : k + 1 < xs.length
    · obtain ⟨b, off, rfl, ho, hcl⟩ := (HIN.out.mv HA.out.mv) (fun h => by rw [h] at h2; simp at h2)
      have hc0 := hcl k (by omega)
      have hc1 : wr.cell? ⟨b, off + (k + 1), none⟩ = some (.string xs[k + 1]) := hcl (k + 1) h2
      have hx : xs[k].size = 32 := HS.out _ (List.getElem_mem _)
      have hy : xs[k + 1].size = 32 := HS.out _ (List.getElem_mem _)
      have HP2 := Lib.hid (HP.out.two h2)
      have HC : Hid (∀ W, MadeAt W M (ts ++ us) → Calls Tryd.prog 32 #[.pointer (some ⟨M, 0, none⟩), .string ((⟨#[1]⟩ : BA) ++ xs[k] ++ xs[k + 1])] W fun e w' => e = .returned (.string (Dg (pairT xs[k] xs[k + 1]))) ∧ MadeAt w' M (ts ++ us ++ [pairT xs[k] xs[k + 1]]) ∧ Mv M W w') := Lib.hid (fun W h => mof_any W M (ts ++ us) (pairT xs[k] xs[k + 1]) h (by rw [pairT_size]; omega) (by simp; omega))
      clear hcl ho HP
      generalize pairT xs[k] xs[k + 1] = P at *
      generalize xs[k] = x at *
      generalize xs[k + 1] = y at *
      generalize Dg P = d at *
      have hsum : IntKind.i64.wrap ((k : Int) + 1) = (k : Int) + 1 := IntWalk.i64_in _ (by omega)
      have hlt1 : (k : Int) + 1 < (xs.length : Int) := by omega
      have hlt0 : k < xs.length := by omega
      have hlt2 : (k : Int) < (xs.length : Int) := by omega
      have hp1 : (0 : Int) ≤ (k : Int) + 1 := by omega
      have htn : ((k : Int) + 1).toNat = k + 1 := by omega
      have hxl : x.size ≤ 32 := by omega
      have hyl : y.size ≤ 32 := by omega
      clear hx hy
      go_wp2_with fail
      have had1 : ¬ 9223372036854775807 < 1 + ByteArray.size x := by omega
      have had2 : ¬ 9223372036854775807 < 1 + ByteArray.size x + ByteArray.size y := by omega
      go_still_tail 12, (by kernel_rfl)
      change wpList _ _ _ _ _ wr.drew
      have HA2 := Lib.hid HA.out.drew
      clear HA hc0 hc1 had1 had2
      generalize wr.drew = w1 at *
      clear hsum htn
      go_wp2_with fail
      refine (HC.out _ HA2.out.made).mono ?_
      rintro e w2 ⟨rfl, hm2, hv2⟩
      have HA3 := Lib.hid (HA2.out.text hm2 hv2)
      clear hm2 hv2 HA2 HC
      have hrow := HA3.out.own
      have hsz := HA3.out.mv.size
      go_wp2_with (at_builtin; refine wpList_append_lies _ rfl _ _ 22 rfl w.heap.size 9 i0 (.string ByteArray.empty) 1 16 Tryd.underlying22 hi hz0 hz1 hz2 rfl (by decide) _ _ _ rfl (hrow.alloc _) ⟨w2.heap.size, 0, none⟩ 1 1 [.string d] rfl rfl (cell_new1 _ _ _) (by simp [Value.oneCell']) (by decide) (by unfold maxLen; omega) (by omega) (by simp; omega) (w2.heap.size + 1) (by simp) ?_; intro g cap' w3 hown' hgrow hg hglt; have HA4 := Lib.hid (HA3.out.snoc hown' hgrow hg hglt); clear hown' hgrow hg hglt)
      refine ⟨⟨k + 2, ys ++ [d], us ++ [P], some ⟨g, 0, none⟩, cap', by go_num, by simp, by omega, by simp; omega, by simp; omega, HP2, HA4⟩, ?_⟩
      simp [intOf]; omega
    · by_cases h1 : k < xs.length
      · have h3 : k + 1 = xs.length := by omega
        obtain ⟨b, off, rfl, ho, hcl⟩ := (HIN.out.mv HA.out.mv) (fun h => by rw [h] at h1; simp at h1)
        have hc0 := hcl k (by omega)
        have HP2 := Lib.hid (HP.out.one h3)
        generalize xs[k] = x at *
        clear hcl ho HP h3
        have hrow := HA.out.own
        have hsz := HA.out.mv.size
        have hlt2 : (k : Int) < (xs.length : Int) := by omega
        have hnl : ¬ (k : Int) + 1 < (xs.length : Int) := by omega
        go_wp2_with (at_builtin; refine wpList_append_lies _ rfl _ _ 22 rfl w.heap.size 9 i0 (.string ByteArray.empty) 1 16 Tryd.underlying22 hi hz0 hz1 hz2 rfl (by decide) _ _ _ rfl (hrow.alloc _) ⟨wr.heap.size, 0, none⟩ 1 1 [.string x] rfl rfl (cell_new1 _ _ _) (by simp [Value.oneCell']) (by decide) (by unfold maxLen; omega) (by omega) (by simp; omega) (wr.heap.size + 1) (by simp) ?_; intro g cap' w3 hown' hgrow hg hglt; have HA4 := Lib.hid (HA.out.snoc hown' hgrow hg hglt); clear hown' hgrow hg hglt)
        refine ⟨⟨k + 2, ys ++ [x], us, some ⟨g, 0, none⟩, cap', by go_num, by simp, by omega, by simp; omega, by omega, HP2, HA4⟩, ?_⟩
        simp [intOf]; omega
      · obtain ⟨h3, h4⟩ := HP.out.done (by omega)
        go_wp2
        go_ret
        obtain ⟨a', cap', hv, hle, hin⟩ := InO.of_owns HA.out.own HA.out.voff
        rw [h3, h4]
        exact ⟨a', cap', by rw [← hv]; rfl, hle, hin, fun b off e => owns_fresh (by rw [← hv]; exact HA.out.own) e, HA.out.made, HA.out.mv⟩
end Go.Proofs.YtnmhmemlgibedaaDoor
