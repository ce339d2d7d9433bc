/- The document's Args: whoever it lets in may be. -/
import Derived.Laws.EntriesVeiled
import Derived.Test.YtdnedbcmgkilaaaGreatDoorZSg9

namespace Go.Proofs.YtdnedbcmgkilaaaGreatDoor
open Go.RowKit
structure ArgsK (xs : List Argm) (k : Nat) : Prop where
 len : k <= 32
 each : ∀ (j : Nat) x, j < k -> xs[j]? = some x -> nameB x.nm.data.toList = true /\ valOK x
 apart : ∀ (i j : Nat) x y, j < k -> xs[i]? = some x -> xs[j]? = some y -> i < j -> x.nm ≠ y.nm
theorem z5z {xs : List Argm} {k : Nat} {x : Argm} (h : ArgsK xs k) (hx : xs[k]? = some x) (hn : nameB x.nm.data.toList = true) (hv : valOK x) (hk : k < 32) (hd : ∀ (q : Nat) y, q < k -> xs[q]? = some y -> y.nm ≠ x.nm) : ArgsK xs (k + 1) where
 len := hk
 each := fun j y hj hy => by
  rcases Nat.lt_or_eq_of_le (Nat.le_of_lt_succ hj) with h1 | rfl
  ·exact h.each j y h1 hy
  ·rw [hx] at hy
   obtain rfl := Option.some.inj hy
   exact ⟨hn, hv⟩
 apart := fun i j y z hj hy hz hij => by
  rcases Nat.lt_or_eq_of_le (Nat.le_of_lt_succ hj) with h1 | rfl
  ·exact h.apart i j y z h1 hy hz hij
  ·rw [hx] at hz
   obtain rfl := Option.some.inj hz
   exact hd i y hij hy
theorem zc1 {xs : List Argm} (h : ArgsK xs xs.length) : ArgsOK xs where
 len := h.len
 each := fun k x hx => h.each k x (List.getElem?_eq_some_iff.1 hx).1 hx
 apart := fun i j x y hx hy hij => h.apart i j x y (List.getElem?_eq_some_iff.1 hy).1 hx hy hij
end Go.Proofs.YtdnedbcmgkilaaaGreatDoor
