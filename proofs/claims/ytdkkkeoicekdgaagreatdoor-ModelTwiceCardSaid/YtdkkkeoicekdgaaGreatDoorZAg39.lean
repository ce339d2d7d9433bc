/- The document's Put: how many values, how deep, of which shape. -/
import Derived.Laws.EntriesVeiled
import Derived.Lib.AppendStr
import Derived.Lib.SlBytesConst
import Derived.Lib.AppendZeros
import Derived.Test.YtdkkkeoicekdgaaGreatDoorZAg38
import Derived.Test.YtdkkkeoicekdgaaGreatDoorZACWrite

section

namespace Go.Proofs.YtdkkkeoicekdgaaGreatDoor.Co
open Go.RowKit
theorem K24.below {w w' : World} (h : Below w.heap.size w w') : K24 w w' := fun g _ e => (h.block g (z01 e)).trans e
mutual
def dep : Tree -> Nat
 | .num _ => 1
 | .text _ => 1
 | .list ts => 1 + depL ts
def depL : List Tree -> Nat
 | [] => 0
 | t :: ts => max (dep t) (depL ts)
end
end Go.Proofs.YtdkkkeoicekdgaaGreatDoor.Co

end

section

namespace Go.Proofs.YtdkkkeoicekdgaaGreatDoor.Co
open Go.RowKit
end Go.Proofs.YtdkkkeoicekdgaaGreatDoor.Co

end

section

namespace Go.Proofs.YtdkkkeoicekdgaaGreatDoor.Co
open Go.RowKit Go.Lib
def OwnM (w : World) (base : Nat) (v : Value) (xs : List Value) : Prop :=
 ∃ g cap cur lo hi, v = .slice (some ⟨g, 0, none⟩) xs.length cap /\ base <= g /\ w.heap[g]? = some (.cells cur 5 (lo, hi)) /\ (∀ i, i < cur.size -> ¬ (lo <= i /\ i < hi)) /\ xs.length <= cap /\ cap <= maxLen /\ cur.size = cap /\ cur.toList.take xs.length = xs
theorem OwnM.lt {w : World} {base : Nat} {v : Value} {xs : List Value} (h : OwnM w base v xs) (g : Nat) (hg : v.ownBlock = some g) : base <= g /\ g < w.heap.size := by
 obtain ⟨g1, cap, cur, lo, hi, rfl, hb, hh, -⟩ := h
 obtain rfl : g1 = g := Option.some.inj hg
 exact ⟨hb, (Array.getElem?_eq_some_iff.1 hh).1⟩
theorem OwnM.below {w w' : World} {base : Nat} {v : Value} {xs : List Value} (h : OwnM w base v xs) (hb : Below w.heap.size w w') : OwnM w' base v xs := by
 obtain ⟨g, cap, cur, lo, hi, hv, hbs, hh, hr⟩ := h
 exact ⟨g, cap, cur, lo, hi, hv, hbs, (hb.block g (Array.getElem?_eq_some_iff.1 hh).1).trans hh, hr⟩
theorem OwnM.slice {w : World} {base : Nat} {v : Value} {xs : List Value} (h : OwnM w base v xs) : ∃ g cap, v = .slice (some ⟨g, 0, none⟩) xs.length cap /\ base <= g /\ g < w.heap.size /\ xs.length <= cap := by
 obtain ⟨g, cap, cur, lo, hi, hv, hb, hh, -, hc, -⟩ := h
 exact ⟨g, cap, hv, hb, (Array.getElem?_eq_some_iff.1 hh).1, hc⟩
theorem OwnM.cell {w : World} {base g n cap : Nat} {xs : List Value} (h : OwnM w base (.slice (some ⟨g, 0, none⟩) n cap) xs) {j : Nat} {u : Value} (hj : xs[j]? = some u) : w.cell? ⟨g, j, none⟩ = some u := by
 obtain ⟨g1, cap1, cur, lo, hi, hv, hb, hh, -, hc, -, hs, ht⟩ := h
 obtain ⟨h3, -, -⟩ := Value.slice.inj hv
 obtain rfl : g = g1 := by injection h3 with h; injection h
 have h1 : (cur.toList.take xs.length)[j]? = some u := by rw [ht]; exact hj
 rw [List.getElem?_take] at h1
 split at h1
 ·rw [Array.getElem?_toList] at h1
  simp [World.cell?, hh, h1]
 ·cases h1
section
variable {P : Program}
end
abbrev OwnB (w : World) (B : Nat) (v : Value) (l : List UInt8) : Prop := w.ownsRow B 5 1 v l.length (Lib.byteCells l)
def OwnX (w : World) (B : Nat) (v : Value) (l : List UInt8) : Prop :=
 (OwnB w B v l /\ v ≠ .slice none 0 0) ∨ ∃ g c, v = .slice (some ⟨g, 0, none⟩) 1 1 /\ B <= g /\ w.heap[g]? = some (.cells #[c] 5 (1, 2)) /\ l.length = 1 /\ Lib.byteCells l = [c]
theorem OwnX.below {w w' : World} {B : Nat} {v : Value} {l : List UInt8} (h : OwnX w B v l) (hb : Below w.heap.size w w') : OwnX w' B v l := by
 rcases h with ⟨h, hn⟩ | ⟨g, c, hv, hB, hh, hl⟩
 ·exact .inl ⟨z0e h (fun g hg => hb.block g (h.lt g hg).2), hn⟩
 ·exact .inr ⟨g, c, hv, hB, (hb.block g (z01 hh)).trans hh, hl⟩
theorem OwnX.lt {w : World} {B : Nat} {v : Value} {l : List UInt8} (h : OwnX w B v l) (g : Nat) (hg : v.ownBlock = some g) : B <= g /\ g < w.heap.size := by
 rcases h with ⟨h, -⟩ | ⟨g', c, rfl, hB, hh, -⟩
 ·exact h.lt g hg
 ·obtain rfl : g' = g := Option.some.inj hg
  exact ⟨hB, z01 hh⟩
theorem OwnX.slice {w : World} {B : Nat} {v : Value} {l : List UInt8} (h : OwnX w B v l) : ∃ a cap, v = .slice a l.length cap := by
 rcases h with ⟨h, -⟩ | ⟨g, c, rfl, -, -, hl, -⟩
 ·rcases h.2 with ⟨rfl, h0⟩ | ⟨g, cap, cur, rfl, -⟩
  ·exact ⟨none, 0, by rw [h0]⟩
  ·exact ⟨_, cap, rfl⟩
 ·exact ⟨_, 1, by rw [hl]⟩
end Go.Proofs.YtdkkkeoicekdgaaGreatDoor.Co

end
