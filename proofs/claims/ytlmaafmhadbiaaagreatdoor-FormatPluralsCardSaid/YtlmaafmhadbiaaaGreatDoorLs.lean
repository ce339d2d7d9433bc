/- FormatPlurals: the pattern under way in memory. -/
import Derived.Test.YtlmaafmhadbiaaaGreatDoorPw
namespace Go.Proofs.YtlmaafmhadbiaaaGreatDoor
open Go.RowKit

/-- A new part of one text. -/
theorem one_newF (w : World) (t : BA) : SlP (w.alloc (.cells #[.int .i64 1, .string t, .string ⟨#[]⟩, .slice none 0 0] 30)) (Fsh w.heap.size (w.alloc (.cells #[.int .i64 1, .string t, .string ⟨#[]⟩, .slice none 0 0] 30))) 1 (.slice (some ⟨w.heap.size, 0, none⟩) 1 1) [onePt t] :=
  ⟨_, _, rfl, Nat.le_refl _, by decide, fun _ => ⟨w.heap.size, 0, rfl, ⟨Nat.le_refl _, by rw [World.size_alloc]; omega⟩, fun j x hj => by
    obtain ⟨rfl, rfl⟩ : j = 0 ∧ onePt t = x := by
      match j, hj with
      | 0, hj => exact ⟨rfl, by simpa using hj⟩
    exact ⟨[.int .i64 1, .string t, .string ⟨#[]⟩, .slice none 0 0], rfl, CP.mk (Sl.nil _ _ _ _), fun i v hv => by
      rw [Nat.zero_add]
      simpa using (row_new w #[.int .i64 1, .string t, .string ⟨#[]⟩, .slice none 0 0] 30).cell hv⟩⟩⟩

/-- The pattern, some cases of which stand. -/
structure LS (w0 : World) (pb : Nat) (W : World) (v : Value) (cs : List Cs) (vs : List Value) : Prop where
  rp : Row W pb 30 [.int .i64 4, .string ⟨#[]⟩, .string kN, v]
  gw : Gw 35 2 (CCn 1) (pb + 1) W v cs vs
  bel : Below w0.heap.size w0 W
  hp : w0.heap.size ≤ pb
section
variable {w0 W w9 : World} {pb : Nat} {v : Value} {cs : List Cs} {vs : List Value}
theorem LS.step {W' : World} (h : LS w0 pb W v cs vs) (hb : Below W.heap.size W W') : LS w0 pb W' v cs vs :=
  ⟨h.rp.below hb, h.gw.fr (kpC 1) (Fr.of_below (X := fun _ => False) hb) (fun _ _ _ hf => hf), below_trans h.bel hb, h.hp⟩
theorem LS.lt (h : LS w0 pb W v cs vs) : pb < W.heap.size := h.rp.lt
theorem LS.own (h : LS w0 pb W v cs vs) : ∀ b, v.ownBlock = some b → b < W.heap.size := fun b hb => (h.gw.own.lt b hb).2
theorem LS.push {key t : BA} {g c n : Nat} (h : LS w0 pb W v cs vs) (hn : n = cs.length)
    (hg : ((W.alloc (.cells #[.int .i64 1, .string t, .string ⟨#[]⟩, .slice none 0 0] 30)).alloc (.cells #[.string key, .slice (some ⟨W.heap.size, 0, none⟩) 1 1] 35)).grownBy w9 v.ownBlock)
    (hown : w9.ownsRow (pb + 1) 35 2 (.slice (some ⟨g, 0, none⟩) (n + 1) c) (n + 1) (vs ++ [.string key, .slice (some ⟨W.heap.size, 0, none⟩) 1 1]))
    (hgl : v.ownBlock = some g ∨ W.heap.size + 1 ≤ g) :
    LS w0 pb (w9.setCell ⟨pb, 3, none⟩ (.slice (some ⟨g, 0, none⟩) (n + 1) c)) (.slice (some ⟨g, 0, none⟩) (n + 1) c) (cs ++ [cs1 key t]) (vs ++ [.string key, .slice (some ⟨W.heap.size, 0, none⟩) 1 1]) := by
  have hlt := h.lt
  have hb1 := below1 W (.cells #[.int .i64 1, .string t, .string ⟨#[]⟩, .slice none 0 0] 30)
  have h1 := h.step hb1
  have hz : (W.alloc (.cells #[.int .i64 1, .string t, .string ⟨#[]⟩, .slice none 0 0] 30)).heap.size = W.heap.size + 1 := World.size_alloc _ _
  have hg9 := Gw.push (B2 := W.heap.size) (k := 2) (x := cs1 key t) h1.gw (kpC 1) hn (CC.mk (one_newF W t)) (by omega) h.own rfl hg hown (by rcases hgl with z | z; exact .inl z; right; omega)
  have hob : ∀ b, v.ownBlock = some b → pb + 1 ≤ b := fun b hb => (h.gw.own.lt b hb).1
  have hb9 : Below w0.heap.size w0 w9 := ((h1.bel.alloc (by rw [hz]; have := h.hp; omega) _).grown hg (by rw [World.size_alloc, hz]; have := h.hp; omega) (fun q hq => by have := hob q hq; have := h.hp; omega))
  have hr9 : Row w9 pb 30 [.int .i64 4, .string ⟨#[]⟩, .string kN, v] := (h1.rp.alloc _).keep (hg.block pb (by rw [World.size_alloc, hz]; omega) (fun e => by have := hob pb e.symm; omega))
  have hf : Fr (fun b => b = pb) w9 (w9.setCell ⟨pb, 3, none⟩ (.slice (some ⟨g, 0, none⟩) (n + 1) c)) := Fr.setCell (X := fun b => b = pb) (p := ⟨pb, 3, none⟩) (Fr.refl _ w9) (.inr rfl) _
  exact ⟨hr9.set 3 _, hg9.fr (kpC 1) hf (fun b hb _ e => by omega), hb9.setCell (p := ⟨pb, 3, none⟩) h.hp _, h.hp⟩
theorem LS.row9 {o1 o2 : Obj} (h : LS w0 pb W v cs vs) (hg : ((W.alloc o1).alloc o2).grownBy w9 v.ownBlock) : Row w9 pb 30 [.int .i64 4, .string ⟨#[]⟩, .string kN, v] :=
  ((h.rp.alloc o1).alloc o2).keep (hg.block pb (by rw [World.size_alloc, World.size_alloc]; have := h.lt; omega) (fun e => by have := (h.gw.own.lt pb e.symm).1; omega))
theorem LS.keep {c : Nat} {ty : TypeId} {us : List Value} {o1 o2 : Obj} {u : Value} (h : LS w0 pb W v cs vs) (hr : Row W c ty us) (ht : ty ≠ 35) (hc : c ≠ pb)
    (hg : ((W.alloc o1).alloc o2).grownBy w9 v.ownBlock) : Row (w9.setCell ⟨pb, 3, none⟩ u) c ty us := by
  have hne : some c ≠ v.ownBlock := fun e => by
    rcases h.gw.own.2 with ⟨rfl, -⟩ | ⟨g, cap, cur, rfl, -, hh, -⟩
    · cases e
    · have e2 : c = g := Option.some.inj e
      subst e2
      unfold Row at hr
      rw [hr] at hh
      injection hh with hh
      injection hh with _ hh
      exact ht hh
  have hlt := hr.lt
  exact (((hr.alloc o1).alloc o2).keep (hg.block c (by rw [World.size_alloc, World.size_alloc]; omega) hne)).keep (Below.heap_setCell _ _ _ _ (by simpa using hc))
end
theorem LS.new (w : World) : LS w w.heap.size (w.alloc (.cells #[.int .i64 4, .string ⟨#[]⟩, .string kN, .slice none 0 0] 30)) (.slice none 0 0) [] [] :=
  ⟨row_new w _ _, Gw.nil _ _ _ _ _, below1 _ _, Nat.le_refl _⟩
/-- The pattern as a list of parts, laid anew. -/
theorem LS.parts {w0 W : World} {pb : Nat} {a : Option Addr} {cap u : Nat} {vs : List Value} (h : LS w0 pb W (.slice a 7 cap) (casesF u) vs) :
    SlP (W.alloc (.cells #[.int .i64 4, .string ⟨#[]⟩, .string kN, .slice a 7 cap] 30)) (Old (W.alloc (.cells #[.int .i64 4, .string ⟨#[]⟩, .string kN, .slice a 7 cap] 30))) 2 (.slice (some ⟨W.heap.size, 0, none⟩) 1 1) [plPt u] := by
  have h1 := (h.step (below1 W (.cells #[.int .i64 4, .string ⟨#[]⟩, .string kN, .slice a 7 cap] 30))).gw.done (kpC 1)
  have h2 : SlC _ (Old _) 1 (.slice a 7 cap) (casesF u) := Sl.keep h1 (fun _ _ => rfl) (fun _ hb => hb.2) (fun _ _ hx => hx.keep (fun _ _ => rfl) (fun _ hb => hb.2))
  have ho := owns_lit W #[.int .i64 4, .string ⟨#[]⟩, .string kN, .slice a 7 cap] 30 0 1 4 rfl (Nat.zero_le _) (by decide)
  exact Sl.of_owns (xs := [plPt u]) ho (Cat.one rfl (CP.mk h2)) (fun b cs z h => (Array.getElem?_eq_some_iff.1 h).1)
/-- The one argument. -/
abbrev argN (n : Int) : Argm := ⟨kN, true, n, ⟨#[]⟩⟩
theorem arg_new (w : World) (n : Int) : SlA (w.alloc (.cells #[.string kN, .bool true, .int .i64 n, .string ⟨#[]⟩] 38)) (Old (w.alloc (.cells #[.string kN, .bool true, .int .i64 n, .string ⟨#[]⟩] 38))) (.slice (some ⟨w.heap.size, 0, none⟩) 1 1) [argN n] := by
  have ho := owns_lit w #[.string kN, .bool true, .int .i64 n, .string ⟨#[]⟩] 38 0 1 4 rfl (Nat.zero_le _) (by decide)
  exact Sl.of_owns (xs := [argN n]) ho (Cat.one rfl rfl) (fun b cs z h => (Array.getElem?_eq_some_iff.1 h).1)
theorem arg_ok (n : Int) : ArgsOK [argN n] where
  len := by show 1 ≤ 32; decide
  each := fun k x hx => by
    match k, hx with
    | 0, hx =>
      obtain rfl : argN n = x := by simpa using hx
      exact ⟨show nameB [110] = true by decide, .inl ⟨rfl, rfl⟩⟩
  apart := fun i j x y hx hy hij => by
    have h1 := (List.getElem?_eq_some_iff.1 hx).1
    have h2 := (List.getElem?_eq_some_iff.1 hy).1
    simp at h1 h2; omega
end Go.Proofs.YtlmaafmhadbiaaaGreatDoor
