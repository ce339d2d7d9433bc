/- The statement CodeReads: the walk of its function. -/
import Derived.Test.YteiipgdgfkcaeaaDoorRefGet
import Derived.Test.YteiipgdgfkcaeaaDoorLike
import Derived.Test.YteiipgdgfkcaeaaDoorSound
namespace Go.Proofs.YteiipgdgfkcaeaaDoor
open Go.RowKit

set_option maxHeartbeats 800000 in
set_option maxRecDepth 100000 in
theorem like_nothing (w : World) : Calls Tryd.prog 7 #[zeroV, zeroV] w fun e w' => e = .returned (.bool true) ∧ Below w.heap.size w w' := by
  go_enter Tryd.func7, Tryd.ntmps7
  go_wp2
  refine wp_loop_rounds 1 ?_
  rw [rounds_succ]
  go_wp2
  go_ret
  exact ⟨rfl, (below1 _ _).alloc (by simp) _⟩

set_option maxHeartbeats 1600000 in
set_option maxRecDepth 100000 in
theorem reads_any (s : ByteArray) (w : World) (hs : s.size ≤ 140737488351232) :
    Calls Tryd.prog 3 #[.string s] w fun e w' => e = .returned (.bool true) ∧ Below w.heap.size w w' := by
  have HG := Lib.hid (fun W => get_any s W hs)
  have HR := Lib.hid (fun W => rget_any s W hs)
  go_enter Tryd.func3, Tryd.ntmps3
  go_wp2_with fail
  refine (HG.out _).mono ?_
  intro e w1 hp
  rcases hr : getF s.data.toList with ⟨t, k⟩ | ⟨er, k⟩
  · obtain ⟨rfl, -, -, hn, -, -⟩ := getF_sound hr
    rw [hr] at hp
    obtain ⟨⟨va, rfl, hra⟩, hb1⟩ := hp
    obtain ⟨kd, n0, b0, a, len, cap, rfl⟩ := Rep.cells t va hra
    have HR1 := HR.out (w1.alloc (.cells #[.int .i64 kd, .int .i64 n0, .string b0, .slice a len cap] 24))
    rw [hr] at HR1
    have HRR := Lib.hid HR1
    have hW1 : Below w.heap.size w (w1.alloc (.cells #[.int .i64 kd, .int .i64 n0, .string b0, .slice a len cap] 24)) := hb1.alloc hb1.size _
    have hrA : Rep (w1.alloc (.cells #[.int .i64 kd, .int .i64 n0, .string b0, .slice a len cap] 24)) (S24 (w1.alloc (.cells #[.int .i64 kd, .int .i64 n0, .string b0, .slice a len cap] 24))) t (.agg #[.int .i64 kd, .int .i64 n0, .string b0, .slice a len cap]) := (Rep.s24 _ _ hra).k24 ((K24.refl _).alloc _)
    have hblk := heap_alloc_new w1 (.cells #[.int .i64 kd, .int .i64 n0, .string b0, .slice a len cap] 24)
    have HN := Lib.hid hn
    clear HR1 HR HG hr hra hb1 hn
    go_wp2_with fail
    generalize w1.alloc (.cells #[.int .i64 kd, .int .i64 n0, .string b0, .slice a len cap] 24) = W at *
    refine HRR.out.mono ?_
    rintro e w2 ⟨⟨vb, rfl, hrb⟩, hb2⟩
    obtain ⟨kd', n0', b0', a', len', cap', rfl⟩ := Rep.cells t vb hrb
    have hblk2 := (hb2.block w1.heap.size (lt_of_heap hblk)).trans hblk
    have hr0 : w2.cell? ⟨w1.heap.size, 0, none⟩ = some (.int .i64 kd) := by simp [World.cell?, hblk2]
    have hr1 : w2.cell? ⟨w1.heap.size, 1, none⟩ = some (.int .i64 n0) := by simp [World.cell?, hblk2]
    have hr2 : w2.cell? ⟨w1.heap.size, 2, none⟩ = some (.string b0) := by simp [World.cell?, hblk2]
    have hr3 : w2.cell? ⟨w1.heap.size, 3, none⟩ = some (.slice a len cap) := by simp [World.cell?, hblk2]
    have hlt2 := lt_of_heap hblk2
    have HL : Hid (Calls Tryd.prog 7 #[.agg #[.int .i64 kd, .int .i64 n0, .string b0, .slice a len cap], .agg #[.int .i64 kd', .int .i64 n0', .string b0', .slice a' len' cap']] (w2.alloc (.cells #[.int .i64 kd', .int .i64 n0', .string b0', .slice a' len' cap'] 24)) fun e w' => e = .returned (.bool true) ∧ Below w.heap.size w w') := Lib.hid (by
      have hbw : Below w.heap.size w (w2.alloc (.cells #[.int .i64 kd', .int .i64 n0', .string b0', .slice a' len' cap'] 24)) := (hW1.trans (hb2.mono hW1.size)).alloc (by have := hW1.size; have := hb2.size; omega) _
      exact (like_ok t _ _ _ (hrA.k24 ((K24.below hb2).alloc _)) ((Rep.s24 _ _ hrb).k24 ((K24.refl _).alloc _)) HN.out).mono fun _ _ ⟨he, hb⟩ => ⟨he, hbw.trans (hb.mono hbw.size)⟩)
    clear hrb hb2 hblk hblk2 hrA hW1 HRR
    go_wp2_with fail
    refine HL.out.mono ?_
    rintro e w3 ⟨rfl, hb3⟩
    have HB3 := Lib.hid hb3
    clear hb3
    go_wp2
    go_ret
    exact ⟨rfl, HB3.out⟩
  · rw [hr] at hp
    obtain ⟨rfl, hb1⟩ := hp
    have HR1 := HR.out (w1.alloc (.cells #[.int .i64 0, .int .i64 0, .string ⟨#[]⟩, .slice none 0 0] 24))
    rw [hr] at HR1
    have HRR := Lib.hid HR1
    have hW1 : Below w.heap.size w (w1.alloc (.cells #[.int .i64 0, .int .i64 0, .string ⟨#[]⟩, .slice none 0 0] 24)) := hb1.alloc hb1.size _
    have hblk := heap_alloc_new w1 (.cells #[.int .i64 0, .int .i64 0, .string ⟨#[]⟩, .slice none 0 0] 24)
    clear HR1 HR HG hr hb1
    go_wp2_with fail
    generalize w1.alloc (.cells #[.int .i64 0, .int .i64 0, .string ⟨#[]⟩, .slice none 0 0] 24) = W at *
    refine HRR.out.mono ?_
    rintro e w2 ⟨rfl, hb2⟩
    have hblk2 := (hb2.block w1.heap.size (lt_of_heap hblk)).trans hblk
    have hr0 : w2.cell? ⟨w1.heap.size, 0, none⟩ = some (.int .i64 0) := by simp [World.cell?, hblk2]
    have hr1 : w2.cell? ⟨w1.heap.size, 1, none⟩ = some (.int .i64 0) := by simp [World.cell?, hblk2]
    have hr2 : w2.cell? ⟨w1.heap.size, 2, none⟩ = some (.string ⟨#[]⟩) := by simp [World.cell?, hblk2]
    have hr3 : w2.cell? ⟨w1.heap.size, 3, none⟩ = some (.slice none 0 0) := by simp [World.cell?, hblk2]
    have hlt2 := lt_of_heap hblk2
    have hbw : Below w.heap.size w (w2.alloc (.cells #[.int .i64 0, .int .i64 0, .string ⟨#[]⟩, .slice none 0 0] 24)) := (hW1.trans (hb2.mono hW1.size)).alloc (by have := hW1.size; have := hb2.size; omega) _
    have HL := Lib.hid ((like_nothing (w2.alloc (.cells #[.int .i64 0, .int .i64 0, .string ⟨#[]⟩, .slice none 0 0] 24))).mono fun _ _ ⟨he, hb⟩ => And.intro he (hbw.trans (hb.mono hbw.size)))
    clear hb2 hblk hblk2 hW1 HRR hbw
    go_wp2_with fail
    refine HL.out.mono ?_
    rintro e w3 ⟨rfl, hb3⟩
    have HB3 := Lib.hid hb3
    clear hb3
    go_wp2
    go_ret
    exact ⟨rfl, HB3.out⟩

end Go.Proofs.YteiipgdgfkcaeaaDoor
