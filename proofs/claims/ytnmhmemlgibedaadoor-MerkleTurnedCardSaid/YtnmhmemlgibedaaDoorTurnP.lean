/- MerkleTurned: the law's walk, up to its cases. -/
import Derived.Test.YtnmhmemlgibedaaDoorTurn
import Derived.Laws.EntriesVeiled
namespace Go.Proofs.YtnmhmemlgibedaaDoor
open Go.RowKit

/-- The box of one number. -/
theorem InS.box {w w' : World} {B : Nat} {v : Int} {a : Option Addr} {xs : List BA} (h : InS w a xs) (hb : Row w B 3 [.int .i64 v]) (hw : But B w w') : InS w' a xs := fun hx => by
  obtain ⟨b, off, ha, hl, hc⟩ := h hx
  have hne : b ≠ B := fun e => by
    subst e
    have h0 := hc 0 (List.length_pos_iff.2 hx)
    unfold Row at hb
    rw [Nat.add_zero] at h0
    simp [World.cell?, hb] at h0
    cases off with
    | zero => simp at h0
    | succ k => simp at h0
  exact ⟨b, off, ha, by rw [hw.size]; exact hl, fun j hj => (World.cell?_of_block (a := ⟨b, off + j, none⟩) (hw.block b hne)).trans (hc j hj)⟩
theorem tmod_bounds (a : Int) (n : Nat) (hn : 0 < n) : -(n : Int) < a.tmod n ∧ a.tmod n < n := by
  constructor
  · have h := Int.tmod_lt_of_pos (-a) (show 0 < (n : Int) by omega)
    rw [Int.neg_tmod] at h
    omega
  · exact Int.tmod_lt_of_pos a (show 0 < (n : Int) by omega)
theorem turn_mod (a : Int) (n : Nat) (hn : 0 < n) (hn2 : n ≤ 1000000) : ∃ I : Nat, (IntKind.i64.wrap (a.tmod n + n)).tmod n = (I : Int) ∧ I < n := by
  obtain ⟨h1, h2⟩ := tmod_bounds a n hn
  rw [IntWalk.i64_in _ (by omega), Int.tmod_eq_emod_of_nonneg (by omega)]
  have h3 := Int.emod_nonneg (a.tmod n + n) (show (n : Int) ≠ 0 by omega)
  have h4 := Int.emod_lt_of_pos (a.tmod n + n) (show 0 < (n : Int) by omega)
  exact ⟨((a.tmod n + n) % n).toNat, by omega, by omega⟩
end Go.Proofs.YtnmhmemlgibedaaDoor
