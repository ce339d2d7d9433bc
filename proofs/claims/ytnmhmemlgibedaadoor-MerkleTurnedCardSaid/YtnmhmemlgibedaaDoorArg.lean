/- A slice of strings that is handed in: what it holds. -/
import Derived.Test.YtnmhmemlgibedaaDoorDoor
import Derived.Test.YtnmhmemlgibedaaDoorLst
import Derived.SliceStrings
import Derived.SizedLaws
import Derived.ShutString
import Derived.WideShapes4
namespace Go.Proofs.YtnmhmemlgibedaaDoor
open Go.ChangeShapes Go.WideShapes Go.ChangeAt Go.WideMaps Go.WideElems Go.RowKit

theorem arg_laidOut : laidOutB Tryd.prog = true := by kernel_rfl
theorem arg_cells9 : Tryd.prog.cellsOf 9 = 1 := by kernel_rfl
theorem weights_str {H : Type} {P : Program} {e : TypeId} : ∀ {ss : List BA} {s : BA}, s ∈ ss → s.data.toList.length ∈ DataW.weightsAll (H := H) P e (ss.map fun s => DataW.lit (.string s.data.toList))
  | x :: ss, s, h => by
    rw [List.map_cons, DataW.weightsAll]
    rcases List.mem_cons.1 h with rfl | h
    · exact List.mem_append_left _ (by simp [DataW.weights])
    · exact List.mem_append_right _ (weights_str h)
theorem open_arg {H : Type} {enc : TypeId × Value → H} {W : World} {a0 : Option Addr} {len cap fuel : Nat} {d0 : DataW H} {p0 : List MemPlace}
    (hf : DataW.trod enc Tryd.prog W 0 (fun _ => true) true fuel 22 (Value.slice a0 len cap).cells.toList = some (d0, p0)) (hlt : ∀ x ∈ p0, x.block < W.heap.size) (hw : ∀ n ∈ d0.weights Tryd.prog 22, n ≤ reachBytes) :
    ∃ xs : List BA, len = xs.length ∧ xs.length ≤ 9223372036854775807 ∧ xs.length ≤ cap ∧ cap ≤ 9223372036854775807 ∧ (∀ x, x ∈ xs → x.size ≤ 140737488351232) ∧ InS W a0 xs := by
  rcases open_strings Tryd.underlying22 Tryd.underlying9 arg_cells9 hf with ⟨hcs, hx⟩ | ⟨a, len', cap', ss, hcs, _, hl, hm, hz, hx, hcell, hws⟩
  · simp [Value.cells] at hcs
    obtain ⟨rfl, rfl, rfl⟩ := hcs
    exact ⟨[], rfl, by simp, by simp, by simp, fun x hx => by simp at hx, fun h => absurd rfl h⟩
  · simp [Value.cells] at hcs
    obtain ⟨rfl, rfl, rfl⟩ := hcs
    simp only [if_true] at hz
    have hlen : (ss.take len).length = len := by rw [List.length_take]; omega
    simp only [Prod.mk.injEq] at hx
    unfold maxLen at hm
    refine ⟨ss.take len, hlen.symm, by rw [hlen]; omega, by rw [hlen]; exact hl, hm, fun x hxm => ?_, fun hne => ?_⟩
    · have h1 := hw x.data.toList.length (by
        rw [hx.1]
        simp only [DataW.weights, Tryd.underlying22]
        exact List.mem_cons_of_mem _ (List.mem_append_left _ (weights_str hxm)))
      rw [BA.len] at h1
      simpa [reachBytes] using h1
    · have hpos : 0 < len := by
        rcases Nat.eq_zero_or_pos len with h | h
        · subst h; simp at hne
        · exact h
      obtain ⟨b, off, spot⟩ := a
      have hspot : spot = none := by simpa [Addr.add] using World.cell?_spot (hcell 0 (by omega))
      subst hspot
      have hbW : b < W.heap.size := hlt (.cell b off) (by rw [hx.2]; exact MemPlace.mem_row.2 ⟨0, by omega, by simp⟩)
      refine ⟨b, off, rfl, hbW, fun j hj => ?_⟩
      rw [hlen] at hj
      have h9 := hcell j (by omega)
      rw [Addr.add_mid] at h9
      rw [h9, List.getElem_take]
      simp [List.getD, List.getElem?_eq_getElem (show j < ss.length by omega)]
end Go.Proofs.YtnmhmemlgibedaaDoor
