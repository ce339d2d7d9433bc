/- chunks and its closure. -/
import Derived.Test.YtagfnpakpncbmaaMem
import Derived.StillTailTactics
namespace Go.Proofs.Ytagfnpakpncbmaa
open Go.RowKit

set_option maxHeartbeats 1000000 in
theorem chunks_any (s : ByteArray) (w : World) : Calls Try.prog 20 #[.string s] w fun e w' => e = .returned (.func (.func 24) #[] #[.pointer (some ⟨w.heap.size + 1, 0, none⟩), .pointer (some ⟨w.heap.size, 0, none⟩)]) ∧ Boxed w' w.heap.size 9 (.string s) ∧ Boxed w' (w.heap.size + 1) 3 (.int .i64 0) ∧ w'.heap.size = w.heap.size + 2 ∧ Below w.heap.size w w' := by
  have b1 := (Boxed.new w 9 (.string s)).alloc (.cells #[.int .i64 0] 3)
  have b2 := Boxed.new (w.alloc (.cells #[.string s] 9)) 3 (.int .i64 0)
  have hb := below2 w (.cells #[.string s] 9) (.cells #[.int .i64 0] 3)
  rw [World.size_alloc] at b2
  have hc2 := b2.cell
  have hf2 := b2.frozen
  go_enter Try.func20, Try.ntmps20
  go_wp2
  go_ret
  exact ⟨by simp, b1, b2, by simp, hb⟩

set_option maxHeartbeats 1000000 in
theorem next_any (s : ByteArray) (k A S : Nat) (w : World) (hs : s.size ≤ 140737488351232) (hk : k ≤ s.size) (hS : Boxed w S 9 (.string s)) (hA : Boxed w A 3 (.int .i64 k)) :
    Calls Try.prog 24 #[.pointer (some ⟨A, 0, none⟩), .pointer (some ⟨S, 0, none⟩)] w fun e w' => ∃ n : Nat, IsFirst (s.data.toList.drop k) n ∧ e = .returned (.string (s.extract k (k + n))) ∧ Boxed w' A 3 (.int .i64 (k + n : Nat)) ∧ But A w w' := by
  obtain ⟨n, hn⟩ := first_ex (s.data.toList.drop k)
  have hnk : n ≤ s.size - k := by have := hn.le; rwa [List.length_drop, ba_len] at this
  have hcS := hS.cell
  have hcA := hA.cell
  have hfA := hA.frozen
  have hz := extract_size s k s.size (Nat.le_refl _)
  have hF : Hid (∀ W, Calls Try.prog 25 #[.string (s.extract k s.size)] W fun e w' => e = .returned (.int .i64 n) ∧ w' = W) := Lib.hid (fun W => by
    refine (first_any (s.extract k s.size) W (by omega)).mono fun e w' h => ?_
    obtain ⟨m, he, hm, hw⟩ := h
    rw [extract_list, List.take_of_length_le (by simp)] at hm
    obtain rfl := hm.unique hn
    exact ⟨he, hw.symm⟩)
  have hki : (k : Int) ≤ (s.size : Int) := by omega
  have hsum : IntKind.i64.wrap ((k : Int) + (n : Int)) = (k : Int) + (n : Int) := IntWalk.i64_in _ (by omega)
  have HN := Lib.hid hn
  clear hn
  go_enter Try.func24, Try.ntmps24
  go_wp2
  go_still_tail 6, (by kernel_rfl)
  still_call (hF.out _)
  still_step
  refine wpStill_nil ?_
  change wpList _ _ _ _ _ w.drew
  have hS2 : Boxed w.drew S 9 (.string s) := hS
  have hA2 : Boxed w.drew A 3 (.int .i64 k) := hA
  have hB2 : But A w w.drew := (But.refl A w).drew
  clear hS hA hcS hcA hfA
  generalize w.drew = w2 at *
  have hcS := hS2.cell
  have hcA := hA2.cell
  have hfA := hA2.frozen
  have hA3 := hA2.set (.int .i64 ((k : Int) + (n : Int)))
  have hB3 := hB2.set 0 (.int .i64 ((k : Int) + (n : Int)))
  have hne : S ≠ A := by
    rintro rfl
    have h1 : w2.heap[S]? = _ := hS2
    have h2 : w2.heap[S]? = _ := hA2
    rw [h1] at h2
    simp at h2
  have hS3 : Boxed (w2.setCell ⟨A, 0, none⟩ (.int .i64 ((k : Int) + (n : Int)))) S 9 (.string s) := (Below.heap_setCell _ _ _ _ hne).trans hS2
  have hcS3 := hS3.cell
  have hcA3 := hA3.cell
  have hkn : (k : Int) ≤ (k : Int) + (n : Int) := by omega
  have hkz : (k : Int) + (n : Int) ≤ (s.size : Int) := by omega
  go_wp2
  go_ret
  exact ⟨n, HN.out, rfl, by rw [Int.natCast_add]; exact hA3, hB3⟩
end Go.Proofs.Ytagfnpakpncbmaa
