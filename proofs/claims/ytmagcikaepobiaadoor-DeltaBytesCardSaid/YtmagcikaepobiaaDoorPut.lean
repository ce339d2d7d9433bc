/- Package code's Right and Put, at a value that a reading made. -/
import Derived.Test.YtmagcikaepobiaaDoorRight
import Derived.Laws.EntriesVeiled
namespace Go.Proofs.YtmagcikaepobiaaDoor
open Go.RowKit

theorem Fr.to_below {X : Nat → Prop} {B : Nat} {w W w1 : World} (hW : Below B w W) (hB : B ≤ W.heap.size) (hf : Fr X W w1) (hX : ∀ k, k < B → ¬ X k) : Below B w w1 :=
  hW.trans ⟨hf.os, hf.tape, hf.output, hf.size, fun k hk => hf.block k (by omega) (hX k hk)⟩

theorem new_at {w : World} {o : Obj} {k : Nat} (h : k = w.heap.size) : (w.alloc o).heap[k]? = some o := by subst h; exact heap_alloc_new _ _
theorem old_at {w : World} {o x : Obj} {k : Nat} (h : k < w.heap.size) (hx : w.heap[k]? = some x) : (w.alloc o).heap[k]? = some x := (Below.heap_alloc _ _ _ h).trans hx

theorem five_get (w : World) (o0 o1 o2 o3 o4 : Obj) :
    (((((w.alloc o0).alloc o1).alloc o2).alloc o3).alloc o4).heap[w.heap.size]? = some o0 ∧ (((((w.alloc o0).alloc o1).alloc o2).alloc o3).alloc o4).heap[w.heap.size + 1]? = some o1 ∧ (((((w.alloc o0).alloc o1).alloc o2).alloc o3).alloc o4).heap[w.heap.size + 1 + 1]? = some o2 ∧
    (((((w.alloc o0).alloc o1).alloc o2).alloc o3).alloc o4).heap[w.heap.size + 1 + 1 + 1]? = some o3 ∧ (((((w.alloc o0).alloc o1).alloc o2).alloc o3).alloc o4).heap[w.heap.size + 1 + 1 + 1 + 1]? = some o4 := by
  exact ⟨(old_at (by simp only [World.size_alloc]; omega) (old_at (by simp only [World.size_alloc]; omega) (old_at (by simp only [World.size_alloc]; omega) (old_at (by simp only [World.size_alloc]; omega) (new_at rfl))))), (old_at (by simp only [World.size_alloc]; omega) (old_at (by simp only [World.size_alloc]; omega) (old_at (by simp only [World.size_alloc]; omega) (new_at (by first | rfl | simp only [World.size_alloc]))))), (old_at (by simp only [World.size_alloc]; omega) (old_at (by simp only [World.size_alloc]; omega) (new_at (by first | rfl | simp only [World.size_alloc])))), (old_at (by simp only [World.size_alloc]; omega) (new_at (by first | rfl | simp only [World.size_alloc]))), (new_at (by first | rfl | simp only [World.size_alloc]))⟩
theorem four_get (w : World) (o0 o1 o2 o3 : Obj) :
    ((((w.alloc o0).alloc o1).alloc o2).alloc o3).heap[w.heap.size]? = some o0 ∧ ((((w.alloc o0).alloc o1).alloc o2).alloc o3).heap[w.heap.size + 1]? = some o1 ∧ ((((w.alloc o0).alloc o1).alloc o2).alloc o3).heap[w.heap.size + 1 + 1]? = some o2 ∧
    ((((w.alloc o0).alloc o1).alloc o2).alloc o3).heap[w.heap.size + 1 + 1 + 1]? = some o3 := by
  exact ⟨(old_at (by simp only [World.size_alloc]; omega) (old_at (by simp only [World.size_alloc]; omega) (old_at (by simp only [World.size_alloc]; omega) (new_at (by first | rfl | simp only [World.size_alloc]))))), (old_at (by simp only [World.size_alloc]; omega) (old_at (by simp only [World.size_alloc]; omega) (new_at (by first | rfl | simp only [World.size_alloc])))), (old_at (by simp only [World.size_alloc]; omega) (new_at (by first | rfl | simp only [World.size_alloc]))), (new_at (by first | rfl | simp only [World.size_alloc]))⟩
theorem four_below (w : World) (o0 o1 o2 o3 : Obj) : Below w.heap.size w ((((w.alloc o0).alloc o1).alloc o2).alloc o3) :=
  (((below1 _ _).alloc (by simp) _).alloc (by simp; omega) _).alloc (by simp; omega) _
theorem five_below (w : World) (o0 o1 o2 o3 o4 : Obj) : Below w.heap.size w (((((w.alloc o0).alloc o1).alloc o2).alloc o3).alloc o4) :=
  ((((below1 _ _).alloc (by simp) _).alloc (by simp; omega) _).alloc (by simp; omega) _).alloc (by simp; omega) _

set_option maxHeartbeats 1600000 in
set_option maxRecDepth 100000 in
theorem right_any {t : Tree} {v : Value} {w : World} (hrep : Rep w (S24 w) t v) (hlev : Lev 1 t) (hn : nodes t ≤ 4000) :
    Calls Tryd.prog 23 #[v] w fun e w' => e = .returned (.int .i64 0) ∧ Below w.heap.size w w' := by
  have hmf : ∀ (fn : Fn) (first cap : Array Value) (w : World), (Instr.makeFunc fn first cap).run Tryd.prog w = .ok (.func fn first cap) w := fun _ _ _ _ => rfl
  obtain ⟨kd, n0, b0, a, len, cap, rfl⟩ := Rep.cells t v hrep
  have hd30 := vDeep_le t 0 1 hlev (by omega)
  have HV : Hid (∀ W, VEnv (w.heap.size + 1) (w.heap.size + 1 + 1) (w.heap.size + 1 + 1 + 1) (w.heap.size + 1 + 1 + 1 + 1) 0 0 W → K24 w W → Calls Tryd.prog 41 #[.agg #[.int .i64 kd, .int .i64 n0, .string b0, .slice a len cap], .int .i64 1, .pointer (some ⟨w.heap.size + 1, 0, none⟩), .pointer (some ⟨w.heap.size + 1 + 1, 0, none⟩), .pointer (some ⟨w.heap.size + 1 + 1 + 1, 0, none⟩), .pointer (some ⟨w.heap.size + 1 + 1 + 1 + 1, 0, none⟩)] W fun e w' =>
      e = .returned (.tuple #[]) ∧ VEnv (w.heap.size + 1) (w.heap.size + 1 + 1) (w.heap.size + 1 + 1 + 1) (w.heap.size + 1 + 1 + 1 + 1) (0 + nodes t) (vDeep 0 1 t) w' ∧ Fr (fun k => k = w.heap.size + 1 ∨ k = w.heap.size + 1 + 1) W w') :=
    Lib.hid (fun W hE hK => visit_ok t _ _ _ _ 0 0 1 W _ hE (hrep.k24 hK) hlev (by omega) (by omega))
  clear hrep hlev
  go_enter Tryd.func23, Tryd.ntmps23
  go_wp2_with fail
  obtain ⟨g0, g1, g2, g3, g4⟩ := five_get w (.cells #[.int .i64 kd, .int .i64 n0, .string b0, .slice a len cap] 36) (.cells #[.int .i64 0] 3) (.cells #[.int .i64 0] 3) (.cells #[.bool true] 4) (.cells #[visitFn (w.heap.size + 1) (w.heap.size + 1 + 1) (w.heap.size + 1 + 1 + 1) (w.heap.size + 1 + 1 + 1 + 1)] 70)
  have hbl := five_below w (.cells #[.int .i64 kd, .int .i64 n0, .string b0, .slice a len cap] 36) (.cells #[.int .i64 0] 3) (.cells #[.int .i64 0] 3) (.cells #[.bool true] 4) (.cells #[visitFn (w.heap.size + 1) (w.heap.size + 1 + 1) (w.heap.size + 1 + 1 + 1) (w.heap.size + 1 + 1 + 1 + 1)] 70)
  generalize (((((w.alloc (.cells #[.int .i64 kd, .int .i64 n0, .string b0, .slice a len cap] 36)).alloc (.cells #[.int .i64 0] 3)).alloc (.cells #[.int .i64 0] 3)).alloc (.cells #[.bool true] 4)).alloc (.cells #[visitFn (w.heap.size + 1) (w.heap.size + 1 + 1) (w.heap.size + 1 + 1 + 1) (w.heap.size + 1 + 1 + 1 + 1)] 70)) = W at g0 g1 g2 g3 g4 hbl ⊢
  refine Calls.mono (HV.out W ⟨g1, g2, g3, g4, by omega⟩ (fun g cur e => (hbl.block g (lt_of_heap e)).trans e)) ?_
  rintro e w1 ⟨rfl, hE, hF⟩
  have hcc := cell_of_heap hE.cnt
  have hcd := cell_of_heap hE.dep
  have hcf := cell_of_heap hE.frm
  have hB : Hid (Below w.heap.size w w1) := Lib.hid (Fr.to_below hbl hbl.size hF (fun k hk => by omega))
  rw [Nat.zero_add] at hcc
  generalize nodes t = N at *
  generalize vDeep 0 1 t = D at *
  clear hE hF HV hbl g0 g1 g2 g3 g4 hmf
  go_wp2
  go_ret
  exact ⟨rfl, hB.out⟩

/-- Put, at a value that a reading made: its bytes. -/
def PutOK (t : Tree) (v : Value) (w : World) : Prop :=
  Calls Tryd.prog 13 #[v] w fun e w' => e = .returned (.tuple #[.string ⟨(enc t).toArray⟩, .int .i64 0]) ∧ Below w.heap.size w w'

set_option maxHeartbeats 1600000 in
set_option maxRecDepth 100000 in
theorem put_any {t : Tree} {v : Value} {w : World} (hrep : Rep w (S24 w) t v) (hok : Ok t) (hlev : Lev 1 t) (hn : nodes t ≤ 4000) (hlen : (enc t).length ≤ 131072)
    (htab : Lib.TabIs Tryd.prog w "internal/strconv.uint64pow10" .u64 Lib.pow10Tab) : PutOK t v w := by
  unfold PutOK
  have hmf : ∀ (fn : Fn) (first cap : Array Value) (w : World), (Instr.makeFunc fn first cap).run Tryd.prog w = .ok (.func fn first cap) w := fun _ _ _ _ => rfl
  obtain ⟨kd, n0, b0, a, len, cap, rfl⟩ := Rep.cells t v hrep
  have HR : Hid (∀ W, K24 w W → Calls Tryd.prog 23 #[.agg #[.int .i64 kd, .int .i64 n0, .string b0, .slice a len cap]] W fun e w' => e = .returned (.int .i64 0) ∧ Below W.heap.size W w') :=
    Lib.hid (fun W hK => right_any (hrep.k24 hK) hlev hn)
  have HW : Hid (∀ (B b fb ab wb : Nat) (W : World), K24 w W → WEnv B b fb ab wb W → Holds B b [] W → Calls Tryd.prog 27 #[.agg #[.int .i64 kd, .int .i64 n0, .string b0, .slice a len cap], .pointer (some ⟨ab, 0, none⟩), .pointer (some ⟨wb, 0, none⟩)] W fun e w' => e = .returned (.tuple #[]) ∧ Wrote B b (enc t) W w') :=
    Lib.hid (fun B b fb ab wb W hK hE hH => write_ok t hok B b fb ab wb W [] _ hE hH (hrep.k24 hK) (by simpa using hlen))
  have HT := Lib.hid htab
  clear hrep hlev hok htab
  go_enter Tryd.func13, Tryd.ntmps13
  go_wp2_with fail
  refine (HR.out _ ((K24.refl _).alloc _)).mono ?_
  rintro e w1 ⟨rfl, hb1⟩
  have hbox : w1.heap[w.heap.size]? = some (.cells #[.int .i64 kd, .int .i64 n0, .string b0, .slice a len cap] 36 (0, 0)) := (hb1.block _ (by simp)).trans (heap_alloc_new _ _)
  have hbw : Below w.heap.size w w1 := (below1 w _).trans (hb1.mono (by simp))
  have hc0 : w1.cell? ⟨w.heap.size, 0, none⟩ = some (.int .i64 kd) := by simp [World.cell?, hbox]
  have hc1 : w1.cell? ⟨w.heap.size, 1, none⟩ = some (.int .i64 n0) := by simp [World.cell?, hbox]
  have hc2 : w1.cell? ⟨w.heap.size, 2, none⟩ = some (.string b0) := by simp [World.cell?, hbox]
  have hc3 : w1.cell? ⟨w.heap.size, 3, none⟩ = some (.slice a len cap) := by simp [World.cell?, hbox]
  have hlt := lt_of_heap hbox
  have hlt1 : w.heap.size < w1.heap.size + 1 := by omega
  have hlt2 : w.heap.size < w1.heap.size + 1 + 1 := by omega
  have hlt3 : w.heap.size < w1.heap.size + 1 + 1 + 1 := by omega
  have HB := Lib.hid hbw
  clear hb1 hbw hbox
  go_wp2_with fail
  obtain ⟨g0, g1, g2, g3⟩ := four_get w1 (.cells #[.pointer none, .slice none 0 0] 49) (.cells #[.bool true] 4) (.cells #[addFn (w1.heap.size + 1) w1.heap.size] 55) (.cells #[writeFn (w1.heap.size + 1 + 1) (w1.heap.size + 1 + 1 + 1)] 56)
  have hbl := four_below w1 (.cells #[.pointer none, .slice none 0 0] 49) (.cells #[.bool true] 4) (.cells #[addFn (w1.heap.size + 1) w1.heap.size] 55) (.cells #[writeFn (w1.heap.size + 1 + 1) (w1.heap.size + 1 + 1 + 1)] 56)
  have hH : Holds w1.heap.size w1.heap.size [] ((((w1.alloc (.cells #[.pointer none, .slice none 0 0] 49)).alloc (.cells #[.bool true] 4)).alloc (.cells #[addFn (w1.heap.size + 1) w1.heap.size] 55)).alloc (.cells #[writeFn (w1.heap.size + 1 + 1) (w1.heap.size + 1 + 1 + 1)] 56)) :=
    Lib.IsBuilderF.alloc (Lib.IsBuilderF.alloc (Lib.IsBuilderF.alloc (Lib.IsBuilderF.of (Lib.fresh_isBuilder 49 5 w1)) _) _) _
  generalize ((((w1.alloc (.cells #[.pointer none, .slice none 0 0] 49)).alloc (.cells #[.bool true] 4)).alloc (.cells #[addFn (w1.heap.size + 1) w1.heap.size] 55)).alloc (.cells #[writeFn (w1.heap.size + 1 + 1) (w1.heap.size + 1 + 1 + 1)] 56)) = W at g0 g1 g2 g3 hbl hH ⊢
  have htab : Lib.TabBelow Tryd.prog w1.heap.size W "internal/strconv.uint64pow10" .u64 Lib.pow10Tab := fun w' hb => Lib.tabBelow_of_tabIs HT.out w' ((HB.out.trans (hbl.mono HB.out.size)).trans (hb.mono HB.out.size))
  have hE : WEnv w1.heap.size w1.heap.size (w1.heap.size + 1) (w1.heap.size + 1 + 1) (w1.heap.size + 1 + 1 + 1) W := ⟨g1, g2, g3, htab, hbl.size⟩
  refine Calls.mono (HW.out w1.heap.size w1.heap.size (w1.heap.size + 1) (w1.heap.size + 1 + 1) (w1.heap.size + 1 + 1 + 1) W (fun g cur e => (hbl.block g (by have := lt_of_heap e; have := HB.out.size; omega)).trans ((HB.out.block g (lt_of_heap e)).trans e)) hE hH) ?_
  rintro e w2 ⟨rfl, hw2⟩
  have env2 := hE.after hH hw2
  have hcf := cell_of_heap env2.fits
  have HS := Lib.hid (Tryd.Builder_String_any_k w1.heap.size w1.heap.size (enc t) w2 hw2.holds (by have := hw2.below.size; have := hbl.size; omega))
  have HE : Hid (Below w.heap.size w w2) := Lib.hid ((HB.out.trans (hbl.mono HB.out.size)).trans (hw2.below.mono HB.out.size))
  have HZ := Lib.hid HB.out.size
  clear hE hH hw2 env2 htab g0 g1 g2 g3 hbl hmf hc0 hc1 hc2 hc3 HW HR
  go_wp2_with fail
  refine HS.out.mono ?_
  rintro e w3 ⟨rfl, -, hb3, -⟩
  have hend : Hid (Below w.heap.size w w3) := Lib.hid (HE.out.trans (hb3.mono HZ.out))
  clear hb3
  go_wp2
  go_ret2
  exact ⟨rfl, hend.out⟩

end Go.Proofs.YtmagcikaepobiaaDoor
