/- Rows of package merkle: combined, nextRow, top; Root. -/
import Derived.Test.YtnmhmemlgibedaaDoorMk
namespace Go.Proofs.YtnmhmemlgibedaaDoor
open Go.RowKit

theorem combined_one (w : World) (b off cap : Nat) (x : BA) (h0 : w.cell? ⟨b, off, none⟩ = some (.string x)) : Calls Tryd.prog 39 #[.slice (some ⟨b, off, none⟩) 1 cap] w fun e w' => e = .returned (.string x) ∧ w = w' := by
  go_enter Tryd.func39, Tryd.ntmps39
  go_wp2
  go_ret
  exact ⟨rfl, rfl⟩
theorem combined_two (w : World) (b off cap : Nat) (x y : BA) (ht : Tab w) (hx : x.size ≤ 1000) (hy : y.size ≤ 1000) (h0 : w.cell? ⟨b, off, none⟩ = some (.string x)) (h1 : w.cell? ⟨b, off + 1, none⟩ = some (.string y)) :
    Calls Tryd.prog 39 #[.slice (some ⟨b, off, none⟩) 2 cap] w fun e w' => e = .returned (.string (Dg (pairT x y))) ∧ Below w.heap.size w w' := by
  have HC := Lib.hid (paired_any x y w.drew (ht.keep rfl) hx hy)
  have HB : Hid (Below w.heap.size w w.drew) := Lib.hid (Same.refl w).drew.below
  clear ht
  go_enter Tryd.func39, Tryd.ntmps39
  go_wp2
  go_still_tail 6, (by kernel_rfl)
  change wpList _ _ _ _ _ w.drew
  generalize w.drew = w2 at *
  go_wp2_with fail
  refine HC.out.mono ?_
  rintro e w3 ⟨rfl, hb⟩
  go_wp2
  go_ret
  exact ⟨rfl, below_trans HB.out hb⟩
def lenS : Value → Nat
  | .slice _ n _ => n
  | _ => 0

/-- How far the next row has come: ys are laid, rest is left. -/
structure RI (w : World) (xs ys rest : List BA) (v : Value) (ap : Option Addr) (W : World) : Prop where
  all : above Dg xs = ys ++ above Dg rest
  sized : AllS rest
  own : W.ownsRow w.heap.size 9 1 v ys.length (strs ys)
  ins : InS W ap rest
  below : Below w.heap.size w W
  tab : Tab W
  pos : 0 < w.heap.size
theorem RI.call {w W W' : World} {xs ys rest : List BA} {v : Value} {ap : Option Addr} (h : RI w xs ys rest v ap W) (hb : Below W.heap.size W W') : RI w xs ys rest v ap W' :=
  ⟨h.all, h.sized, ownsRow_below h.own hb, h.ins.below hb, below_trans h.below hb, h.tab.below hb, h.pos⟩
/-- The rest, cut behind its pair. -/
theorem InS.tail2 {w : World} {b off : Nat} {x y : BA} {r : List BA} (h : InS w (some ⟨b, off, none⟩) (x :: y :: r)) : InS w (some ⟨b, off + 2, none⟩) r := h.drop 2
theorem InS.grown {w w' : World} {a : Option Addr} {xs : List BA} {o : Option Nat} {B : Nat} (h : InS w a xs) (hg : w.grownBy w' o) (ho : ∀ k, o = some k → B ≤ k) (ha : ∀ b off, a = some ⟨b, off, none⟩ → b < B) : InS w' a xs := fun hx => by
  obtain ⟨b, off, rfl, hl, hc⟩ := h hx
  refine ⟨b, off, rfl, Nat.lt_of_lt_of_le hl hg.size, fun j hj => ?_⟩
  rw [← hc j hj]
  refine World.cell?_of_block (a := ⟨b, off + j, none⟩) (hg.block b hl ?_)
  intro e
  have := ho b e.symm
  have := ha b off rfl
  omega

theorem RI.snoc {w W W2 : World} {xs ys rest rest2 : List BA} {x : BA} {v v' : Value} {ap AP : Option Addr} {o : Obj} (h : RI w xs ys rest v ap W) (hx : above Dg rest = [x] ++ above Dg rest2) (hin : InS W AP rest2)
    (hown : W2.ownsRow w.heap.size 9 1 v' (ys.length + 1) (strs ys ++ [.string x])) (hg : (W.alloc o).grownBy W2 v.ownBlock) (hbb : ∀ b off, AP = some ⟨b, off, none⟩ → rest2 ≠ [] → b < w.heap.size) (hr : ∀ z ∈ rest2, z ∈ rest) : RI w xs (ys ++ [x]) rest2 v' AP W2 := by
  have hsz := h.below.size
  refine ⟨by rw [h.all, hx, List.append_assoc], fun z hz => h.sized z (hr z hz), by simpa using hown, ?_, (h.below.alloc h.below.size _).grown hg (by simp; omega) (fun k e => (h.own.lt k e).1), ?_, h.pos⟩
  · intro hne
    obtain ⟨b, off, rfl, hb, hc⟩ := hin hne
    exact ((hin.below (below1 W o)).grown (B := w.heap.size) hg (fun k e => (h.own.lt k e).1) (fun b' off' e => by cases e; exact hbb b off rfl hne)) hne
  · refine h.tab.keep ?_
    have h0 := h.pos
    rw [hg.block 0 (by simp) (fun e => by have := (h.own.lt 0 e.symm).1; omega)]
    exact Below.heap_alloc _ _ _ h.tab.pos

set_option maxHeartbeats 3200000 in
set_option maxRecDepth 100000 in
theorem next_any (w : World) (a : Option Addr) (cap : Nat) (xs : List BA) (ht : Tab w) (hl : xs.length ≤ 4096) (hc : xs.length ≤ cap) (hs : AllS xs) (hIn : InS w a xs) :
    Calls Tryd.prog 30 #[.slice a xs.length cap] w fun e w' => ∃ a' cap', e = .returned (.slice a' (above Dg xs).length cap') ∧ (above Dg xs).length ≤ cap' ∧ InS w' a' (above Dg xs) ∧ (∀ b off, a' = some ⟨b, off, none⟩ → w.heap.size ≤ b) ∧ Below w.heap.size w w' := by
  obtain ⟨i0, hi, hz0, hz1, hz2⟩ := info_parts info9
  have HI0 : Hid (RI w xs [] xs (.slice none 0 0) a w) := Lib.hid ⟨rfl, hs, World.ownsRow_nil _ _ _ _, hIn, Below.refl _ _, ht, ht.pos⟩
  have HA0 : Hid (∀ b off, a = some ⟨b, off, none⟩ → xs ≠ [] → b < w.heap.size) := Lib.hid (fun b off e hne => by
    obtain ⟨b', off', e', hb, -⟩ := hIn hne
    rw [e] at e'
    simp at e'
    omega)
  clear ht hs hIn
  go_enter Tryd.func30, Tryd.ntmps30
  go_wp2
  go_loopw [0, 3] (fun r v wr => ∃ (ys rest : List BA) (pa ap : Option Addr) (pc cp : Nat), r = .slice ap rest.length cp ∧ v = .slice pa ys.length pc ∧ rest.length ≤ 4096 ∧ ys.length + rest.length ≤ 4096 ∧ rest.length ≤ cp ∧ Hid (∀ b off, ap = some ⟨b, off, none⟩ → rest ≠ [] → b < w.heap.size) ∧ Hid (RI w xs ys rest v ap wr)) (fun r _ _ => lenS r)
  case atStart => exact ⟨[], xs, none, a, 0, cap, rfl, rfl, hl, by simpa using hl, hc, HA0, HI0⟩
  case round =>
    clear HI0 HA0
    obtain ⟨ys, rest, pa, ap, pc, cp, rfl, rfl, hrl, hyr, hcp, HA, HI⟩ := hrel
    match rest, hrl, hyr, hcp, HA, HI with
    | [], hrl, hyr, hcp, HA, HI =>
      go_wp2
      go_ret
      have h1 := HI.out.all
      rw [above, List.append_nil] at h1
      obtain ⟨a', cap', hv, hle, hin⟩ := InS.of_owns HI.out.own
      rw [h1]
      exact ⟨a', cap', by rw [← hv]; rfl, hle, hin, fun b off e => owns_fresh (by rw [← hv]; exact HI.out.own) e, HI.out.below⟩
    | [x], hrl, hyr, hcp, HA, HI =>
      obtain ⟨b, off, rfl, hb, hcl⟩ := HI.out.ins (by simp)
      have hbw := HA.out b off rfl (by simp)
      have hx : x.size = 32 := HI.out.sized x (by simp)
      have HC : Hid (Calls Tryd.prog 39 #[.slice (some ⟨b, off, none⟩) 1 1] wr fun e w' => e = .returned (.string x) ∧ Below wr.heap.size wr w') := Lib.hid ((combined_one wr b off 1 x (hcl 0 (by simp))).mono fun e w' h => ⟨h.1, by rw [← h.2]; exact Below.refl _ _⟩)
      have HX : Hid (above Dg [x] = [x] ++ above Dg []) := Lib.hid (by simp [above])
      clear hcl hx
      simp only [List.length_cons, List.length_nil] at hrl hyr hcp ⊢
      have hmin : min (2 : Int) 1 = 1 := rfl
      go_wp2_with fail
      refine HC.out.mono ?_
      rintro e w1 ⟨rfl, hb1⟩
      have H1 := Lib.hid (HI.out.call hb1)
      clear hb1 HC HI
      have hrow := H1.out.own
      have hB := H1.out.below
      have hsz := hB.size
      go_wp2_with (at_builtin; refine wpList_append_own _ rfl _ _ 22 rfl w.heap.size 9 i0 (.string ByteArray.empty) 1 16 Tryd.underlying22 hi hz0 hz1 hz2 rfl (by decide) _ _ _ rfl (hrow.alloc _) ⟨w1.heap.size, 0, none⟩ 1 1 [.string (x)] rfl rfl (cell_new1 _ _ _) (by simp [Value.oneCell']) (by unfold maxLen; omega) (by omega) (by simp; omega) ?_; intro v' w2 hown' hgrow _; obtain ⟨g', cap', rfl⟩ := ownsRow_succ hown')
      have HI2 : Hid (RI w xs (ys ++ [x]) [] (.slice (some ⟨g', 0, none⟩) (ys.length + 1) cap') (some ⟨b, off, none⟩) w2) := Lib.hid (H1.out.snoc HX.out (AP := some ⟨b, off, none⟩) (InS.nil _ _) hown' hgrow (fun b' off' e hne => absurd rfl hne) (fun z hz => by cases hz))
      refine ⟨⟨ys ++ [x], [], some ⟨g', 0, none⟩, _, cap', _, rfl, by simp, by simp, by simp; omega, by simp, Lib.hid (fun b' off' e hne => absurd rfl hne), HI2⟩, ?_⟩
      simp [lenS]
    | [x, y], hrl, hyr, hcp, HA, HI =>
      obtain ⟨b, off, rfl, hb, hcl⟩ := HI.out.ins (by simp)
      have hbw := HA.out b off rfl (by simp)
      have hx : x.size = 32 := HI.out.sized x (by simp)
      have hy : y.size = 32 := HI.out.sized y (by simp)
      have HC : Hid (Calls Tryd.prog 39 #[.slice (some ⟨b, off, none⟩) 2 2] wr fun e w' => e = .returned (.string (Dg (pairT x y))) ∧ Below wr.heap.size wr w') := Lib.hid (combined_two wr b off 2 x y HI.out.tab (by omega) (by omega) (hcl 0 (by simp)) (hcl 1 (by simp)))
      have HX : Hid (above Dg [x, y] = [Dg (pairT x y)] ++ above Dg []) := Lib.hid (by simp [above])
      clear hcl hx hy
      generalize Dg (pairT x y) = z at *
      simp only [List.length_cons, List.length_nil] at hrl hyr hcp ⊢
      have hmin : min (2 : Int) 2 = 2 := rfl
      go_wp2_with fail
      refine HC.out.mono ?_
      rintro e w1 ⟨rfl, hb1⟩
      have H1 := Lib.hid (HI.out.call hb1)
      clear hb1 HC HI
      have hrow := H1.out.own
      have hB := H1.out.below
      have hsz := hB.size
      go_wp2_with (at_builtin; refine wpList_append_own _ rfl _ _ 22 rfl w.heap.size 9 i0 (.string ByteArray.empty) 1 16 Tryd.underlying22 hi hz0 hz1 hz2 rfl (by decide) _ _ _ rfl (hrow.alloc _) ⟨w1.heap.size, 0, none⟩ 1 1 [.string (z)] rfl rfl (cell_new1 _ _ _) (by simp [Value.oneCell']) (by unfold maxLen; omega) (by omega) (by simp; omega) ?_; intro v' w2 hown' hgrow _; obtain ⟨g', cap', rfl⟩ := ownsRow_succ hown')
      have HI2 : Hid (RI w xs (ys ++ [z]) [] (.slice (some ⟨g', 0, none⟩) (ys.length + 1) cap') (some ⟨b, off, none⟩) w2) := Lib.hid (H1.out.snoc HX.out (AP := some ⟨b, off, none⟩) (InS.nil _ _) hown' hgrow (fun b' off' e hne => absurd rfl hne) (fun z hz => by cases hz))
      refine ⟨⟨ys ++ [z], [], some ⟨g', 0, none⟩, _, cap', _, rfl, by simp, by simp, by simp; omega, by simp, Lib.hid (fun b' off' e hne => absurd rfl hne), HI2⟩, ?_⟩
      simp [lenS]
    | x :: y :: u :: r, hrl, hyr, hcp, HA, HI =>
      obtain ⟨b, off, rfl, hb, hcl⟩ := HI.out.ins (by simp)
      have hbw := HA.out b off rfl (by simp)
      have hx : x.size = 32 := HI.out.sized x (by simp)
      have hy : y.size = 32 := HI.out.sized y (by simp)
      have HC : Hid (Calls Tryd.prog 39 #[.slice (some ⟨b, off, none⟩) 2 2] wr fun e w' => e = .returned (.string (Dg (pairT x y))) ∧ Below wr.heap.size wr w') := Lib.hid (combined_two wr b off 2 x y HI.out.tab (by omega) (by omega) (hcl 0 (by simp)) (hcl 1 (by simp)))
      have HX : Hid (above Dg (x :: y :: u :: r) = [Dg (pairT x y)] ++ above Dg (u :: r)) := Lib.hid (by simp [above])
      clear hcl hx hy
      generalize Dg (pairT x y) = z at *
      simp only [List.length_cons] at hrl hyr hcp ⊢
      obtain ⟨L, hL⟩ : ∃ L, r.length = L := ⟨_, rfl⟩
      have HL := Lib.hid hL
      rw [hL] at hrl hyr hcp ⊢
      clear hL
      have hmin : min (2 : Int) ((L : Int) + 1 + 1 + 1) = 2 := by omega
      have hne : ¬ L + 1 + 1 + 1 = 2 := by omega
      go_wp2_with fail
      refine HC.out.mono ?_
      rintro e w1 ⟨rfl, hb1⟩
      have H1 := Lib.hid (HI.out.call hb1)
      clear hb1 HC HI
      have hrow := H1.out.own
      have hB := H1.out.below
      have hsz := hB.size
      go_wp2_with (at_builtin; refine wpList_append_own _ rfl _ _ 22 rfl w.heap.size 9 i0 (.string ByteArray.empty) 1 16 Tryd.underlying22 hi hz0 hz1 hz2 rfl (by decide) _ _ _ rfl (hrow.alloc _) ⟨w1.heap.size, 0, none⟩ 1 1 [.string (z)] rfl rfl (cell_new1 _ _ _) (by simp [Value.oneCell']) (by unfold maxLen; omega) (by omega) (by simp; omega) ?_; intro v' w2 hown' hgrow _; obtain ⟨g', cap', rfl⟩ := ownsRow_succ hown')
      have HI2 : Hid (RI w xs (ys ++ [z]) (u :: r) (.slice (some ⟨g', 0, none⟩) (ys.length + 1) cap') (some ⟨b, off + 2, none⟩) w2) := Lib.hid (H1.out.snoc HX.out (AP := some ⟨b, off + 2, none⟩) H1.out.ins.tail2 hown' hgrow (fun b' off' e hne => by cases e; exact hbw) (fun z hz => List.mem_cons_of_mem _ (List.mem_cons_of_mem _ hz)))
      refine ⟨⟨ys ++ [z], u :: r, some ⟨g', 0, none⟩, some ⟨b, off + 2, none⟩, cap', L + 1, by rw [List.length_cons, HL.out], by simp, by simp [HL.out]; omega, by simp [HL.out]; omega, by simp [HL.out], Lib.hid (fun b' off' e hne => by cases e; exact hbw), HI2⟩, ?_⟩
      simp [lenS]
end Go.Proofs.YtnmhmemlgibedaaDoor
