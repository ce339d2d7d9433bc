/- Two Mades side by side; the texts of a root and of what is shown are short. -/
import Derived.Test.YtnmhmemlgibedaaDoorColl
import Derived.Test.YtnmhmemlgibedaaDoorChecks
namespace Go.Proofs.YtnmhmemlgibedaaDoor
open Go.RowKit

theorem aboveT_size : ∀ r : List BA, AllS r → ∀ x ∈ aboveT r, x.size = 65
  | a :: b :: r, h, x, hx => by
    rw [aboveT, List.mem_cons] at hx
    rcases hx with rfl | hx
    · rw [pairT_size, h a (by simp), h b (by simp)]
    · exact aboveT_size r (fun y hy => h y (by simp [hy])) x hx
  | [a], h, x, hx => by simp [aboveT] at hx
  | [], h, x, hx => by simp [aboveT] at hx
theorem topT_size : ∀ r : List BA, AllS r → (topT Dg r).length ≤ r.length ∧ ∀ x ∈ topT Dg r, x.size = 65 := by
  intro r
  induction hn : r.length using Nat.strongRecOn generalizing r with
  | _ n ih =>
    subst hn
    intro hr
    by_cases h : r.length ≤ 1
    · rw [topT_few h]; exact ⟨by simp, fun x hx => by cases hx⟩
    · obtain ⟨h1, h2⟩ := ih _ (above_lt Dg h) (above Dg r) rfl (above_sized Dg Dg_size r hr)
      rw [topT_more (by omega)]
      refine ⟨?_, fun x hx => ?_⟩
      · have := aboveT_length r
        rw [List.length_append]; omega
      · rcases List.mem_append.1 hx with hx | hx
        · exact aboveT_size r hr x hx
        · exact h2 x hx
theorem rootT_size {l : List BA} (h : AllS l) : (rootT Dg l).length ≤ l.length + 1 ∧ ∀ x ∈ rootT Dg l, x.size ≤ 1000000 := by
  obtain ⟨h1, h2⟩ := topT_size l h
  unfold rootT
  refine ⟨by rw [List.length_append]; simp; omega, fun x hx => ?_⟩
  rcases List.mem_append.1 hx with hx | hx
  · rw [h2 x hx]; omega
  · rw [List.mem_singleton.1 hx, crownT_size, top_size l h]; omega
theorem upT_size : ∀ (n k : Nat) (d : BA) (p : List BA), d.size = 32 → AllS p → (upT Dg n k d p).length ≤ p.length ∧ ∀ x ∈ upT Dg n k d p, x.size = 65 := by
  intro n
  induction n using Nat.strongRecOn with
  | _ n ih =>
    intro k d p hd hp
    unfold upT
    by_cases h : n ≤ 1
    · rw [dif_pos h]; exact ⟨by simp, fun x hx => by cases hx⟩
    · rw [dif_neg h]
      by_cases hs : sib k < n
      · rw [if_pos hs]
        cases p with
        | nil => exact ⟨by simp, fun x hx => by cases hx⟩
        | cons q p =>
          have hq : q.size = 32 := hp q (by simp)
          obtain ⟨h1, h2⟩ := ih ((n + 1) / 2) (by omega) (k / 2) (Dg (stepT k d q)) p (Dg_size _) (fun x hx => hp x (by simp [hx]))
          refine ⟨by simp only [List.length_cons]; omega, fun x hx => ?_⟩
          rcases List.mem_cons.1 hx with rfl | hx
          · unfold stepT
            split <;> rw [pairT_size] <;> omega
          · exact h2 x hx
      · rw [if_neg hs]
        exact ih ((n + 1) / 2) (by omega) (k / 2) d p hd hp
theorem upF_size : ∀ (n k : Nat) (d : BA) (p : List BA) (e : BA), d.size = 32 → upF Dg n k d p = some e → e.size = 32 := by
  intro n
  induction n using Nat.strongRecOn with
  | _ n ih =>
    intro k d p e hd hu
    unfold upF at hu
    by_cases h : n ≤ 1
    · rw [dif_pos h] at hu
      cases p with
      | nil => cases hu; exact hd
      | cons => cases hu
    · rw [dif_neg h] at hu
      by_cases hs : sib k < n
      · rw [if_pos hs] at hu
        cases p with
        | nil => cases hu
        | cons q p => exact ih ((n + 1) / 2) (by omega) (k / 2) _ p e (Dg_size _) hu
      · rw [if_neg hs] at hu
        exact ih ((n + 1) / 2) (by omega) (k / 2) d p e hd hu
theorem shownT_size {n i : Int} {leaf : BA} {p : List BA} {e : BA} (h : Shown Dg n i leaf p e) : (shownT Dg n i leaf p e).length ≤ p.length + 1 ∧ ∀ x ∈ shownT Dg n i leaf p e, x.size ≤ 1000000 := by
  obtain ⟨h1, h2⟩ := upT_size n.toNat i.toNat leaf p h.1.leaf h.1.all
  have h3 := upF_size _ _ _ _ _ h.1.leaf h.2
  unfold shownT
  refine ⟨by rw [List.length_append]; simp; omega, fun x hx => ?_⟩
  rcases List.mem_append.1 hx with hx | hx
  · rw [h2 x hx]; omega
  · rw [List.mem_singleton.1 hx, crownT_size, h3]; omega

/-- Two Mades, laid one behind the other. -/
abbrev nil31 : Obj := .cells #[.slice none 0 0] 31
abbrev two (w : World) : World := (w.alloc nil31).alloc nil31
theorem two_size (w : World) : (two w).heap.size = w.heap.size + 2 := by simp
theorem two_row1 (w : World) : Row (two w) w.heap.size 31 [.slice none 0 0] := (row_new w #[.slice none 0 0] 31).alloc _
theorem two_row2 (w : World) : Row (two w) (w.heap.size + 1) 31 [.slice none 0 0] := by
  have := row_new (w.alloc nil31) #[.slice none 0 0] 31
  rwa [show (w.alloc nil31).heap.size = w.heap.size + 1 by simp] at this
theorem two_made1 (w : World) : MadeAt (two w) w.heap.size [] := ⟨_, two_row1 w, World.ownsRow_nil _ _ _ _⟩
theorem off_nil {w : World} {M h : Nat} (hr : Row w M 31 [.slice none 0 0]) (hl : h < w.heap.size) (hn : h ≠ M) : Off w M h :=
  ⟨hl, hn, fun v hv e => by
    obtain rfl := row_inj hr hv
    cases e⟩
theorem two_ins {w : World} {a : Option Addr} {xs : List BA} (h : InS w a xs) : InO (two w) w.heap.size a xs := fun hx => by
  obtain ⟨b, off, ha, hb, hc⟩ := h hx
  exact ⟨b, off, ha, off_nil (two_row1 w) (by rw [two_size]; omega) (by omega), fun j hj => ((below2 w _ _).cell (p := ⟨b, off + j, none⟩) hb).trans (hc j hj)⟩
/-- Behind what was done to the first one. -/
structure Aft (w w4 : World) : Prop where
  row2 : Row w4 (w.heap.size + 1) 31 [.slice none 0 0]
  below : Below w.heap.size w w4
theorem aft_root {w w4 : World} (hv : Mv w.heap.size (two w) w4) : Aft w w4 := by
  have h2 := below2 w nil31 nil31
  have hs := two_size w
  refine ⟨(two_row2 w).keep (hv.keep _ (off_nil (two_row1 w) (by omega) (by omega))), ⟨hv.os.trans h2.os, hv.tape.trans h2.tape, hv.output.trans h2.output, by have := hv.size; omega, fun k hk => ?_⟩⟩
  rw [hv.keep k (off_nil (two_row1 w) (by omega) (by omega))]
  exact h2.block k hk
theorem Aft.made2 {w w4 : World} (h : Aft w w4) : MadeAt w4 (w.heap.size + 1) [] := ⟨_, h.row2, World.ownsRow_nil _ _ _ _⟩
theorem Aft.ins {w w4 : World} (h : Aft w w4) {a : Option Addr} {xs : List BA} (hi : InS w a xs) : InO w4 (w.heap.size + 1) a xs := fun hx => by
  obtain ⟨b, off, ha, hb, hc⟩ := hi hx
  have := h.below.size
  exact ⟨b, off, ha, off_nil h.row2 (by omega) (by omega), fun j hj => (h.below.cell (p := ⟨b, off + j, none⟩) hb).trans (hc j hj)⟩
theorem Aft.shown {w w4 w5 : World} {ts : List BA} (h : Aft w w4) (hm : MadeAt w4 w.heap.size ts) (hv : Mv (w.heap.size + 1) w4 w5) : MadeAt w5 w.heap.size ts ∧ Below w.heap.size w w5 := by
  obtain ⟨v, hr, ho⟩ := hm
  have hs := h.below.size
  have h2 := h.row2.lt
  refine ⟨⟨v, hr.keep (hv.keep _ (off_nil h.row2 (by omega) (by omega))), ho.1, ?_⟩, ⟨hv.os.trans h.below.os, hv.tape.trans h.below.tape, hv.output.trans h.below.output, by have := hv.size; omega, fun k hk => ?_⟩⟩
  · rcases ho.2 with h0 | ⟨g, cap, cur, hvv, hbs, hh, hrr⟩
    · exact .inl h0
    · refine .inr ⟨g, cap, cur, hvv, hbs, (hv.keep g (off_nil h.row2 (Array.getElem?_eq_some_iff.1 hh).1 (fun e => ?_))).trans hh, hrr⟩
      subst e
      have := h.row2
      unfold Row at this
      rw [this] at hh
      injection hh with hh
      injection hh with _ hh
      exact absurd hh (by decide)
  · rw [hv.keep k (off_nil h.row2 (by omega) (by omega))]
    exact h.below.block k hk
/-- Both texts, read. -/
theorem MadeAt.read {w : World} {M : Nat} {ts : List BA} (h : MadeAt w M ts) : ∃ a cap, w.cell? ⟨M, 0, none⟩ = some (.slice a ts.length cap) ∧ InS w a ts := by
  obtain ⟨a, cap, hr, ho⟩ := h.size_ts
  obtain ⟨a', cap', hv, -, hin⟩ := InS.of_owns ho
  injection hv with h1 h2 h3
  subst h1
  exact ⟨a, cap, hr.cell rfl, hin⟩
end Go.Proofs.YtnmhmemlgibedaaDoor
