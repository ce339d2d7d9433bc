/- An operation as a value, by package delta. -/
import Derived.Test.YtmagcikaepobiaaDoorDRight
import Derived.Test.YtmagcikaepobiaaDoorRBts
namespace Go.Proofs.YtmagcikaepobiaaDoor.Dl
open Go.RowKit

/-- An operation as a value. -/
def opT (x : Opr) : Tree := if inB x then .text x.t.data.toList else .list [.num x.f, .num x.n]
theorem opT_in {x : Opr} (h : inB x = true) : opT x = .text x.t.data.toList := by unfold opT; rw [if_pos h]
theorem opT_cp {x : Opr} (h : inB x = false) : opT x = .list [.num x.f, .num x.n] := by unfold opT; rw [h]; rfl
theorem rep_two_nums {w : World} {g : Nat} {f n : Int} (h : w.heap[g]? = some (.cells #[.int .i64 1, .int .i64 f, .string ⟨#[]⟩, .slice none 0 0, .int .i64 1, .int .i64 n, .string ⟨#[]⟩, .slice none 0 0] 36 (0, 0))) {B : Nat} (h1 : B ≤ g) (h2 : g < w.heap.size) :
    Rep w (fun k => B ≤ k ∧ k < w.heap.size) (.list [.num f, .num n]) (.agg #[.int .i64 3, .int .i64 0, .string ⟨#[]⟩, .slice (some ⟨g, 0, none⟩) 2 2]) := by
  rw [Rep]
  refine ⟨_, [.int .i64 1, .int .i64 f, .string ⟨#[]⟩, .slice none 0 0, .int .i64 1, .int .i64 n, .string ⟨#[]⟩, .slice none 0 0], rfl, ⟨rfl, .inr ⟨g, 2, _, rfl, Nat.zero_le _, h, Nat.le_refl _, by decide, rfl, rfl⟩⟩, fun g' hg' => ?_, ?_⟩
  · obtain rfl : g = g' := Option.some.inj hg'
    exact ⟨h1, h2⟩
  · rw [RepAll]
    refine ⟨_, _, _, _, _, rfl, by rw [Rep], ?_⟩
    rw [RepAll]
    refine ⟨_, _, _, _, _, rfl, by rw [Rep], ?_⟩
    rw [RepAll]
/-- A value that a call made, in rows of its own. -/
def NewVal (t : Tree) (w : World) (e : Ending) (w' : World) : Prop := ∃ c0 c1 c2 c3, e = .returned (.agg #[c0, c1, c2, c3]) ∧ Rep w' (fun g => w.heap.size ≤ g ∧ g < w'.heap.size) t (.agg #[c0, c1, c2, c3]) ∧ Below w.heap.size w w'

set_option maxHeartbeats 1600000 in
set_option maxRecDepth 100000 in
theorem value_any (x : Opr) (w : World) (hs : x.t.size ≤ 140737488351232) : Calls Tryd.prog 12 #[opV x] w fun e w' => NewVal (opT x) w e w' := by
  have HC := Lib.hid (fun w => isInsert_any x w (by omega))
  cases hi : inB x with
  | true =>
    rw [hi] at HC
    have HO := Lib.hid (opT_in hi)
    clear hi
    obtain ⟨f, n, t⟩ := x
    simp only at hs HO
    rw [HO.out]
    go_enter Tryd.func12, Tryd.ntmps12
    go_wp2_with fail
    refine (HC.out _).mono ?_
    rintro e w1 ⟨rfl, hb1⟩
    have hA : w1.heap[w.heap.size]? = some (.cells #[.int .i64 f, .int .i64 n, .string t] 32 (0, 0)) := (hb1.block _ (by simp; omega)).trans ((Below.heap_alloc _ _ _ (by simp)).trans (heap_alloc_new _ _))
    have hR : w1.heap[w.heap.size + 1]? = some (.cells #[.int .i64 0, .int .i64 0, .string ⟨#[]⟩, .slice none 0 0] 36 (0, 0)) := (hb1.block _ (by simp)).trans (by
      have := heap_alloc_new (w.alloc (.cells #[.int .i64 f, .int .i64 n, .string t] 32)) (.cells #[.int .i64 0, .int .i64 0, .string ⟨#[]⟩, .slice none 0 0] 36)
      rw [World.size_alloc] at this
      exact this)
    have HB1 : Hid (Below w.heap.size w w1) := Lib.hid ((below2 w _ _).trans (hb1.mono (by simp; omega)))
    have a2 : w1.cell? ⟨w.heap.size, 2, none⟩ = some (.string t) := by simp [World.cell?, hA]
    have r0 := frozen_of_heap hR 0
    have r1 := frozen_of_heap hR 1
    have r2 := frozen_of_heap hR 2
    have r3 := frozen_of_heap hR 3
    have q0 : w1.cell? ⟨w.heap.size + 1, 0, none⟩ = some (.int .i64 0) := by simp [World.cell?, hR]
    have q1 : w1.cell? ⟨w.heap.size + 1, 1, none⟩ = some (.int .i64 0) := by simp [World.cell?, hR]
    have q2 : w1.cell? ⟨w.heap.size + 1, 2, none⟩ = some (.string ⟨#[]⟩) := by simp [World.cell?, hR]
    have q3 : w1.cell? ⟨w.heap.size + 1, 3, none⟩ = some (.slice none 0 0) := by simp [World.cell?, hR]
    have hP := heap_put4 hR (.int .i64 2) (.int .i64 0) (.string t) (.slice none 0 0)
    have hBut := _root_.Go.Proofs.YtmagcikaepobiaaDoor.But.put4 (w.heap.size + 1) w1 (.int .i64 2) (.int .i64 0) (.string t) (.slice none 0 0)
    have HP := Lib.hid hP
    have HBut := Lib.hid hBut
    clear hb1 hA hP hBut hR
    go_wp2
    generalize (((w1.setCell ⟨w.heap.size + 1, 0, none⟩ (.int .i64 2)).setCell ⟨w.heap.size + 1, 1, none⟩ (.int .i64 0)).setCell ⟨w.heap.size + 1, 2, none⟩ (.string t)).setCell ⟨w.heap.size + 1, 3, none⟩ (.slice none 0 0) = w4 at *
    have hP := HP.out
    have hB4 : Below w.heap.size w w4 := HB1.out.trans ⟨HBut.out.os, HBut.out.tape, HBut.out.output, Nat.le_of_eq HBut.out.size.symm, fun k hk => HBut.out.block k (by omega)⟩
    exact bodyPost_ret (v := .agg #[.int .i64 2, .int .i64 0, .string t, .slice none 0 0]) (by simp [results, Tryd.results12, go_sem, World.cell?, hP]) rfl ⟨_, _, _, _, rfl, by rw [Rep], hB4⟩
  | false =>
    rw [hi] at HC
    have HO := Lib.hid (opT_cp hi)
    clear hi
    obtain ⟨f, n, t⟩ := x
    simp only at hs HO
    rw [HO.out]
    go_enter Tryd.func12, Tryd.ntmps12
    go_wp2_with fail
    refine (HC.out _).mono ?_
    rintro e w1 ⟨rfl, hb1⟩
    have hA : w1.heap[w.heap.size]? = some (.cells #[.int .i64 f, .int .i64 n, .string t] 32 (0, 0)) := (hb1.block _ (by simp; omega)).trans ((Below.heap_alloc _ _ _ (by simp)).trans (heap_alloc_new _ _))
    have hR : w1.heap[w.heap.size + 1]? = some (.cells #[.int .i64 0, .int .i64 0, .string ⟨#[]⟩, .slice none 0 0] 36 (0, 0)) := (hb1.block _ (by simp)).trans (by
      have := heap_alloc_new (w.alloc (.cells #[.int .i64 f, .int .i64 n, .string t] 32)) (.cells #[.int .i64 0, .int .i64 0, .string ⟨#[]⟩, .slice none 0 0] 36)
      rw [World.size_alloc] at this
      exact this)
    have HB1 : Hid (Below w.heap.size w w1) := Lib.hid ((below2 w _ _).trans (hb1.mono (by simp; omega)))
    have hlt := lt_of_heap hR
    have a0 : w1.cell? ⟨w.heap.size, 0, none⟩ = some (.int .i64 f) := by simp [World.cell?, hA]
    have a1 : w1.cell? ⟨w.heap.size, 1, none⟩ = some (.int .i64 n) := by simp [World.cell?, hA]
    have r0 := frozen_of_heap hR 0
    have r1 := frozen_of_heap hR 1
    have r2 := frozen_of_heap hR 2
    have r3 := frozen_of_heap hR 3
    have q0 : w1.cell? ⟨w.heap.size + 1, 0, none⟩ = some (.int .i64 0) := by simp [World.cell?, hR]
    have q1 : w1.cell? ⟨w.heap.size + 1, 1, none⟩ = some (.int .i64 0) := by simp [World.cell?, hR]
    have q2 : w1.cell? ⟨w.heap.size + 1, 2, none⟩ = some (.string ⟨#[]⟩) := by simp [World.cell?, hR]
    have q3 : w1.cell? ⟨w.heap.size + 1, 3, none⟩ = some (.slice none 0 0) := by simp [World.cell?, hR]
    have HP := Lib.hid (heap_put4 hR (.int .i64 3) (.int .i64 0) (.string ⟨#[]⟩) (.slice (some ⟨w1.heap.size, 0, none⟩) 2 2))
    have HBut := Lib.hid (_root_.Go.Proofs.YtmagcikaepobiaaDoor.But.put4 (w.heap.size + 1) w1 (.int .i64 3) (.int .i64 0) (.string ⟨#[]⟩) (.slice (some ⟨w1.heap.size, 0, none⟩) 2 2))
    have HLT := Lib.hid hlt
    clear hb1 hA hR
    go_wp2
    generalize (((w1.setCell ⟨w.heap.size + 1, 0, none⟩ (.int .i64 3)).setCell ⟨w.heap.size + 1, 1, none⟩ (.int .i64 0)).setCell ⟨w.heap.size + 1, 2, none⟩ (.string ⟨#[]⟩)).setCell ⟨w.heap.size + 1, 3, none⟩ (.slice (some ⟨w1.heap.size, 0, none⟩) 2 2) = w3 at *
    have hP3 := HP.out
    have hsz3 : w3.heap.size = w1.heap.size := HBut.out.size
    have hP : (w3.alloc (.cells #[.int .i64 1, .int .i64 f, .string ⟨#[]⟩, .slice none 0 0, .int .i64 1, .int .i64 n, .string ⟨#[]⟩, .slice none 0 0] 36)).heap[w.heap.size + 1]? = some (.cells #[.int .i64 3, .int .i64 0, .string ⟨#[]⟩, .slice (some ⟨w1.heap.size, 0, none⟩) 2 2] 36 (0, 0)) := (Below.heap_alloc _ _ _ (by rw [hsz3]; exact HLT.out)).trans hP3
    have hN4 : (w3.alloc (.cells #[.int .i64 1, .int .i64 f, .string ⟨#[]⟩, .slice none 0 0, .int .i64 1, .int .i64 n, .string ⟨#[]⟩, .slice none 0 0] 36)).heap[w1.heap.size]? = some (.cells #[.int .i64 1, .int .i64 f, .string ⟨#[]⟩, .slice none 0 0, .int .i64 1, .int .i64 n, .string ⟨#[]⟩, .slice none 0 0] 36) := by rw [← hsz3]; exact heap_alloc_new _ _
    have hB3 : Below w.heap.size w w3 := HB1.out.trans ⟨HBut.out.os, HBut.out.tape, HBut.out.output, Nat.le_of_eq HBut.out.size.symm, fun k hk => HBut.out.block k (by omega)⟩
    have hB4 : Below w.heap.size w (w3.alloc (.cells #[.int .i64 1, .int .i64 f, .string ⟨#[]⟩, .slice none 0 0, .int .i64 1, .int .i64 n, .string ⟨#[]⟩, .slice none 0 0] 36)) := hB3.alloc hB3.size _
    refine bodyPost_ret (v := .agg #[.int .i64 3, .int .i64 0, .string ⟨#[]⟩, .slice (some ⟨w1.heap.size, 0, none⟩) 2 2]) (by simp [results, Tryd.results12, go_sem, World.cell?, hP]) rfl ⟨_, _, _, _, rfl, ?_, hB4⟩
    exact rep_two_nums hN4 (by have := HB1.out.size; omega) (lt_of_heap hN4)
end Go.Proofs.YtmagcikaepobiaaDoor.Dl
