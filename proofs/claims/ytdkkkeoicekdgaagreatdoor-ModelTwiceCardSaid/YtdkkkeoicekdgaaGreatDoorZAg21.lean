/- The document's reader in memory: a name. -/
import Derived.RegionTactic
import Derived.Test.YtdkkkeoicekdgaaGreatDoorZAg22
import Derived.Test.YtdkkkeoicekdgaaGreatDoorZAg25
import Derived.Test.YtdkkkeoicekdgaaGreatDoorZAg23

section

namespace Go.Proofs.YtdkkkeoicekdgaaGreatDoor.Dr
open Go.RowKit Go.Proofs.YtdkkkeoicekdgaaGreatDoor
end Go.Proofs.YtdkkkeoicekdgaaGreatDoor.Dr

end

section

namespace Go.Proofs.YtdkkkeoicekdgaaGreatDoor.Dr
open Go.RowKit Go.Proofs.YtdkkkeoicekdgaaGreatDoor
end Go.Proofs.YtdkkkeoicekdgaaGreatDoor.Dr

end

section

namespace Go.Proofs.YtdkkkeoicekdgaaGreatDoor.Dr
open Go.RowKit Go.Proofs.YtdkkkeoicekdgaaGreatDoor
theorem owns_set {w : World} {B g k n cap : Nat} {e : TypeId} {vs : List Value} (h : w.ownsRow B e k (.slice (some ⟨g, 0, none⟩) n cap) n vs) (i : Nat) (u : Value) : (w.setCell ⟨g, i, none⟩ u).ownsRow B e k (.slice (some ⟨g, 0, none⟩) n cap) n (vs.set i u) := by
 rcases h.2 with ⟨h0, -⟩ | ⟨g', cap', cur, hv, hb, hh, hc, hm, hs, ht⟩
 ·cases h0
 ·injection hv with hv1 hv2 hv3
  obtain rfl : g = g' := by injection hv1 with h; injection h
  subst hv3
  refine ⟨by rw [List.length_set]; exact h.1, .inr ⟨g, cap, cur.setIfInBounds i u, rfl, hb, ?_, hc, hm, by simpa using hs, ?_⟩⟩
  ·simp [World.setCell, Array.getElem?_modify, hh]
  ·rw [<- ht, Array.toList_setIfInBounds, List.take_set]
theorem Cat.unsnoc {α : Type} {k : Nat} {C : α -> List Value -> Prop} {x : α} : ∀ {xs : List α} {vs : List Value}, Cat k C (xs ++ [x]) vs -> ∃ us cs, vs = us ++ cs /\ us.length = xs.length * k /\ Cat k C xs us /\ cs.length = k /\ C x cs
 | [], vs, h => by
  obtain ⟨cs, rest, rfl, hl, hx, hr⟩ := h
  obtain rfl : rest = [] := hr
  exact ⟨[], cs, by simp, by simp, rfl, hl, hx⟩
 | y :: r, vs, h => by
  obtain ⟨cs, rest, rfl, hl, hx, hr⟩ := h
  obtain ⟨us, ds, rfl, h1, h2, h3, h4⟩ := Cat.unsnoc hr
  exact ⟨cs ++ us, ds, by simp, by rw [List.length_append, hl, h1, List.length_cons, Nat.succ_mul]; omega, ⟨cs, us, rfl, hl, hx, h2⟩, h3, h4⟩
theorem Gw.text {n B g m cap : Nat} {w : World} {xs : List Pt} {x : Pt} {vs : List Value} (h : Gw 263 4 (CPn n) B w (.slice (some ⟨g, 0, none⟩) m cap) (xs ++ [x]) vs) (hm : m = xs.length + 1) (t : BA) :
  Gw 263 4 (CPn n) B (w.setCell ⟨g, xs.length * 4 + 1, none⟩ (.string t)) (.slice (some ⟨g, 0, none⟩) m cap) (xs ++ [.mk x.k t x.n x.cs]) (vs.set (xs.length * 4 + 1) (.string t)) := by
 obtain ⟨us, cs, rfl, hl, hxs, hc, hx⟩ := Cat.unsnoc h.cat
 have hkeep : ∀ b, Oth B (.slice (some ⟨g, 0, none⟩) m cap) w b -> (w.setCell ⟨g, xs.length * 4 + 1, none⟩ (.string t)).heap[b]? = w.heap[b]? := fun b hb => Below.heap_setCell _ _ _ _ (fun e => hb.2.2 (by rw [e]; rfl))
 have hS : ∀ b, Oth B (.slice (some ⟨g, 0, none⟩) m cap) w b -> Oth B (.slice (some ⟨g, 0, none⟩) m cap) (w.setCell ⟨g, xs.length * 4 + 1, none⟩ (.string t)) b := fun b hb => ⟨hb.1, by simpa [World.setCell] using hb.2.1, hb.2.2⟩
 have hown := owns_set (n := m) (by have := h.own; rw [List.length_append] at this; rw [hm]; rw [hm] at this; exact this) (xs.length * 4 + 1) (.string t)
 refine ⟨by rw [List.length_append]; rw [hm] at hown ⊢; exact hown, ?_⟩
 obtain ⟨q, v, rfl, rfl, hs⟩ := CP.out hx
 have he : (us ++ [.int .i64 x.k, .string x.t, .string x.n, v]).set (xs.length * 4 + 1) (.string t) = us ++ [.int .i64 x.k, .string t, .string x.n, v] := by
  rw [List.set_append_right _ _ (by omega), hl]; simp
 rw [he]
 exact Cat.snoc rfl (CP.mk (hs.keep hkeep hS)) (hxs.mono (fun _ _ hy => CP.keep hkeep hS hy))
end Go.Proofs.YtdkkkeoicekdgaaGreatDoor.Dr

end
