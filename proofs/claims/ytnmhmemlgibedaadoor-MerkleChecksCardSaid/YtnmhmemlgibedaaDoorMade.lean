/- The document's Made: the texts that digests were made of, in memory. -/
import Derived.Test.YtnmhmemlgibedaaDoorROf
import Derived.Test.YtnmhmemlgibedaaDoorTop
import Derived.Deep.AppendLies
namespace Go.Proofs.YtnmhmemlgibedaaDoor
open Go.RowKit

theorem rof_dg (s : BA) (w : World) (hs : s.size ≤ 140737488351232) : Calls Tryd.prog 27 #[.string s] w fun e w' => e = .returned (.string (Dg s)) ∧ Below w.heap.size w w' := rof_any s w hs
theorem rleaf_any (s : BA) (w : World) (hs : s.size ≤ 1000000) : Calls Tryd.prog 12 #[.string s] w fun e w' => e = .returned (.string (Dg ((⟨#[0]⟩ : BA) ++ s))) ∧ Below w.heap.size w w' := by
  have HC := Lib.hid (rof_dg ((⟨#[0]⟩ : BA) ++ s) w (by rw [ByteArray.size_append]; show 1 + s.size ≤ _; omega))
  go_enter Tryd.func12, Tryd.ntmps12
  go_wp2_with fail
  refine HC.out.mono ?_
  rintro e w1 ⟨rfl, hb⟩
  go_wp2
  go_ret
  exact ⟨rfl, hb⟩

/-- A Made in block M: its texts. -/
structure MadeIn (w : World) (M : Nat) (v : Value) (ts : List BA) : Prop where
  row : Row w M 31 [v]
  own : w.ownsRow (M + 1) 9 1 v ts.length (strs ts)
def MadeAt (w : World) (M : Nat) (ts : List BA) : Prop := ∃ v, MadeIn w M v ts
theorem made_new (w : World) : MadeAt (w.alloc (.cells #[.slice none 0 0] 31)) w.heap.size [] := ⟨_, row_new w #[.slice none 0 0] 31, World.ownsRow_nil _ _ _ _⟩
/-- Block h is no part of the Made in block M. -/
structure Off (w : World) (M h : Nat) : Prop where
  lt : h < w.heap.size
  ne : h ≠ M
  own : ∀ v, Row w M 31 [v] → v.ownBlock ≠ some h
/-- Only the Made in block M has changed, and memory has grown. -/
structure Mv (M : Nat) (w w' : World) : Prop where
  os : w'.os = w.os
  tape : w'.tape = w.tape
  output : w'.output = w.output
  size : w.heap.size ≤ w'.heap.size
  off : ∀ h, Off w M h → Off w' M h
  keep : ∀ h, Off w M h → w'.heap[h]? = w.heap[h]?
theorem Mv.refl (M : Nat) (w : World) : Mv M w w := ⟨rfl, rfl, rfl, Nat.le_refl _, fun _ h => h, fun _ _ => rfl⟩
theorem Mv.trans {M : Nat} {u v w : World} (h : Mv M u v) (k : Mv M v w) : Mv M u w :=
  ⟨k.os.trans h.os, k.tape.trans h.tape, k.output.trans h.output, Nat.le_trans h.size k.size, fun x hx => k.off x (h.off x hx), fun x hx => (k.keep x (h.off x hx)).trans (h.keep x hx)⟩
theorem row_inj {w : World} {M : Nat} {t : TypeId} {a b : Value} (h : Row w M t [a]) (k : Row w M t [b]) : a = b := by
  unfold Row at *
  rw [h] at k
  simpa using k
theorem MadeAt.lt {w : World} {M : Nat} {ts : List BA} (h : MadeAt w M ts) : M < w.heap.size := by
  obtain ⟨v, h⟩ := h
  exact h.row.lt
theorem MadeAt.below {w w' : World} {M : Nat} {ts : List BA} (h : MadeAt w M ts) (hb : Below w.heap.size w w') : MadeAt w' M ts := by
  obtain ⟨v, h⟩ := h
  exact ⟨v, h.row.below hb, ownsRow_below h.own hb⟩
theorem Off.below {w w' : World} {M h : Nat} (hM : M < w.heap.size) (ho : Off w M h) (hb : Below w.heap.size w w') : Off w' M h :=
  ⟨Nat.lt_of_lt_of_le ho.lt hb.size, ho.ne, fun v hv => ho.own v (hv.keep (hb.block M hM).symm)⟩
theorem Mv.of_below {w w' : World} {M : Nat} (hM : M < w.heap.size) (hb : Below w.heap.size w w') : Mv M w w' :=
  ⟨hb.os, hb.tape, hb.output, hb.size, fun _ ho => ho.below hM hb, fun h ho => hb.block h ho.lt⟩
/-- What is laid anew is no part of it. -/
theorem MadeAt.off_new {w w' : World} {M : Nat} {ts : List BA} (h : MadeAt w M ts) (hb : Below w.heap.size w w') {g : Nat} (hg : w.heap.size ≤ g) (hg2 : g < w'.heap.size) : Off w' M g := by
  obtain ⟨v, h⟩ := h
  refine ⟨hg2, by have := h.row.lt; omega, fun v' hv' e => ?_⟩
  obtain rfl := row_inj (h.row.below hb) hv'
  have := (h.own.lt g e).2
  omega
theorem MadeAt.size_ts {w : World} {M : Nat} {ts : List BA} (h : MadeAt w M ts) : ∃ a cap, Row w M 31 [.slice a ts.length cap] ∧ w.ownsRow (M + 1) 9 1 (.slice a ts.length cap) ts.length (strs ts) := by
  obtain ⟨v, h⟩ := h
  obtain ⟨a, cap, rfl⟩ := ownsRow_form h.own
  exact ⟨a, cap, h.row, h.own⟩
theorem ownsRow_but {w w' : World} {base : Nat} {e : TypeId} {size : Nat} {v : Value} {n : Nat} {xs : List Value} {A : Nat} (h : w.ownsRow base e size v n xs) (hb : But A w w') (hA : A < base) : w'.ownsRow base e size v n xs := by
  refine ⟨h.1, ?_⟩
  rcases h.2 with h0 | ⟨g, cap, cur, hv, hbs, hh, hr⟩
  · exact .inl h0
  · exact .inr ⟨g, cap, cur, hv, hbs, (hb.block g (by omega)).trans hh, hr⟩

/-- A text more, in the row that the append left. -/
theorem made_step {w w2 : World} {M : Nat} {ts : List BA} {s : BA} {a : Option Addr} {cap g cap' : Nat} {o : Obj} (hrow : Row w M 31 [.slice a ts.length cap]) (hown : w.ownsRow (M + 1) 9 1 (.slice a ts.length cap) ts.length (strs ts))
    (hown' : w2.ownsRow (M + 1) 9 1 (.slice (some ⟨g, 0, none⟩) (ts.length + 1) cap') (ts.length + 1) (strs ts ++ [.string s])) (hgrow : (w.alloc o).grownBy w2 (Value.slice a ts.length cap).ownBlock) (hg : (Value.slice a ts.length cap).ownBlock = some g ∨ g = w.heap.size + 1) :
    w2.cell? ⟨M, 0, none⟩ = some (.slice a ts.length cap) ∧ w2.frozen? ⟨M, 0, none⟩ = false ∧ Hid (MadeAt (w2.setCell ⟨M, 0, none⟩ (.slice (some ⟨g, 0, none⟩) (ts.length + 1) cap')) M (ts ++ [s])) ∧ Hid (Mv M w (w2.setCell ⟨M, 0, none⟩ (.slice (some ⟨g, 0, none⟩) (ts.length + 1) cap'))) := by
  have hlt := hrow.lt
  have hM2 : w2.heap[M]? = w.heap[M]? := by
    rw [hgrow.block M (by simp; omega) (fun e => by have := (hown.lt M e.symm).1; omega)]
    exact Below.heap_alloc _ _ _ hlt
  have hR2 : Row w2 M 31 [.slice a ts.length cap] := hrow.keep hM2
  have hbut : But M w2 (w2.setCell ⟨M, 0, none⟩ (.slice (some ⟨g, 0, none⟩) (ts.length + 1) cap')) := (But.refl M w2).set 0 _
  refine ⟨hR2.cell rfl, hR2.thaw 0, Lib.hid ⟨_, hR2.set 0 _, ?_⟩, Lib.hid ?_⟩
  · have := ownsRow_but hown' hbut (by omega)
    simpa using this
  · have hsz : w.heap.size + 1 ≤ w2.heap.size := by have := hgrow.size; simpa using this
    refine ⟨hgrow.os, hgrow.tape, hgrow.output, by rw [hbut.size]; omega, fun h ho => ⟨by rw [hbut.size]; have := ho.lt; omega, ho.ne, fun v hv e => ?_⟩, fun h ho => ?_⟩
    · obtain rfl := row_inj (hR2.set 0 _) hv
      obtain rfl : g = h := Option.some.inj e
      rcases hg with hg | hg
      · exact ho.own _ hrow hg
      · have := ho.lt
        omega
    · rw [hbut.block h ho.ne, hgrow.block h (by simp; have := ho.lt; omega) (fun e => ho.own _ hrow e.symm)]
      exact Below.heap_alloc _ _ _ ho.lt

set_option maxHeartbeats 1600000 in
set_option maxRecDepth 100000 in
theorem mof_any (w : World) (M : Nat) (ts : List BA) (s : BA) (h : MadeAt w M ts) (hs : s.size ≤ 1000000) (hn : ts.length ≤ 1000000) :
    Calls Tryd.prog 32 #[.pointer (some ⟨M, 0, none⟩), .string s] w fun e w' => e = .returned (.string (Dg s)) ∧ MadeAt w' M (ts ++ [s]) ∧ Mv M w w' := by
  obtain ⟨i0, hi, hz0, hz1, hz2⟩ := info_parts info9
  obtain ⟨a, cap, hrow, hown⟩ := h.size_ts
  have hlt := hrow.lt
  have hc0 : w.cell? ⟨M, 0, none⟩ = some (.slice a ts.length cap) := hrow.cell rfl
  have HR := Lib.hid hrow
  have HO := Lib.hid hown
  clear h hrow hown
  have hown := HO.out
  go_enter Tryd.func32, Tryd.ntmps32
  go_wp2_with (at_builtin; refine wpList_append_lies _ rfl _ _ 22 rfl (M + 1) 9 i0 (.string ByteArray.empty) 1 16 Tryd.underlying22 hi hz0 hz1 hz2 rfl (by decide) _ _ _ rfl (hown.alloc _) ⟨w.heap.size, 0, none⟩ 1 1 [.string s] rfl rfl (cell_new1 _ _ _) (by simp [Value.oneCell']) (by decide) (by unfold maxLen; omega) (by omega) (by simp; omega) (w.heap.size + 1) (by simp) ?_; intro g cap' w2 hown' hgrow hg hglt; obtain ⟨hcell, hfz, HA, HV⟩ := made_step HR.out HO.out hown' hgrow hg; clear hown' hgrow hg hglt)
  generalize w2.setCell ⟨M, 0, none⟩ (.slice (some ⟨g, 0, none⟩) (ts.length + 1) cap') = w3 at *
  refine (rof_dg s w3 (by omega)).mono ?_
  rintro e w4 ⟨rfl, hb4⟩
  go_wp2
  go_ret
  exact ⟨rfl, HA.out.below hb4, HV.out.trans (Mv.of_below HA.out.lt hb4)⟩
end Go.Proofs.YtnmhmemlgibedaaDoor
