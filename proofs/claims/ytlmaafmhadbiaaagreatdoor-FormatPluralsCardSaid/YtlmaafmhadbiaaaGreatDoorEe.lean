/- Package format: an evaluation that is not aborted. -/
import Derived.Test.YtlmaafmhadbiaaaGreatDoorEv
import Derived.Defers
import Derived.Recover
namespace Go.Proofs.YtlmaafmhadbiaaaGreatDoor
open Go.RowKit

/-- The deferred closure where nothing was aborted. -/
theorem idle_any (p q : Value) (w : World) :
    CallsD Tryz.prog 25 #[p, q] .returning w fun e u' w' => e = .returned (.tuple #[]) ∧ u' = .returning ∧ w' = w := by
  refine callsD_of_wpS Tryz.func25 rfl fun c₀ cs hu => ?_
  apply wpS_seq
  apply wpS_region
  simp [wpOpsS, go_sem, recoverD, hu, Tryz.ntmps25, Exit.thenS]
  apply wpS_seq
  apply wpS_region
  simp [wpOpsS, go_sem, Act.eval, Exit.thenS, Array.replicate]
  refine wpS_cond (t := false) (by simp [Act.eval, Array.replicate]) ?_
  simp only [Bool.false_eq_true, if_false]
  refine wpS_of_wp (wp_skip ?_)
  cases c₀
  simp_all [bodyPostS, results, Tryz.results25]

/-- What an evaluation asks of the parts' walk. -/
def PartsOK (w : World) (lang : BA) (asl psl : Value) (l : List UInt8) : Prop := ∀ (W : World) (b : Nat), Below w.heap.size w W → w.heap.size ≤ b → OutAt w.heap.size b [] W →
  Calls Tryz.prog 26 #[.agg #[.string lang, asl], psl, .int .i64 0, addFn b] W fun e w' => e = .returned (.tuple #[]) ∧ OutAt w.heap.size b l w' ∧ Ekp w.heap.size b W w'

set_option maxHeartbeats 3200000 in
set_option maxRecDepth 100000 in
theorem evaluated_any (w : World) (lang : BA) (asl psl : Value) (l : List UInt8) (hl : l ≠ []) (HP : PartsOK w lang asl psl l) :
    Calls Tryz.prog 14 #[psl, .agg #[.string lang, asl]] w fun e w' => e = .returned (.tuple #[.string ⟨l.toArray⟩, .int .i64 0]) ∧ Below w.heap.size w w' := by
  have hmf : ∀ (fn : Fn) (first cap : Array Value) (w : World), (Instr.makeFunc fn first cap).run Tryz.prog w = .ok (.func fn first cap) w := fun _ _ _ _ => rfl
  have R1 : Row ((((w.alloc (.cells #[.string lang, asl] 46)).alloc (.cells #[.string ⟨#[]⟩] 9)).alloc (.cells #[.int .i64 0] 25)).alloc (.cells #[.pointer none, .slice none 0 0] 68)) (w.heap.size + 1) 9 [.string ⟨#[]⟩] := by
    have := ((row_new (w.alloc (.cells #[.string lang, asl] 46)) #[.string ⟨#[]⟩] 9).alloc (.cells #[.int .i64 0] 25)).alloc (.cells #[.pointer none, .slice none 0 0] 68)
    rw [World.size_alloc] at this; exact this
  have R2 : Row ((((w.alloc (.cells #[.string lang, asl] 46)).alloc (.cells #[.string ⟨#[]⟩] 9)).alloc (.cells #[.int .i64 0] 25)).alloc (.cells #[.pointer none, .slice none 0 0] 68)) (w.heap.size + 1 + 1) 25 [.int .i64 0] := by
    have := (row_new ((w.alloc (.cells #[.string lang, asl] 46)).alloc (.cells #[.string ⟨#[]⟩] 9)) #[.int .i64 0] 25).alloc (.cells #[.pointer none, .slice none 0 0] 68)
    rw [World.size_alloc, World.size_alloc] at this; exact this
  have R3 : Row ((((w.alloc (.cells #[.string lang, asl] 46)).alloc (.cells #[.string ⟨#[]⟩] 9)).alloc (.cells #[.int .i64 0] 25)).alloc (.cells #[.pointer none, .slice none 0 0] 68)) (w.heap.size + 1 + 1 + 1) 68 [.pointer none, .slice none 0 0] := by
    have := row_new (((w.alloc (.cells #[.string lang, asl] 46)).alloc (.cells #[.string ⟨#[]⟩] 9)).alloc (.cells #[.int .i64 0] 25)) #[.pointer none, .slice none 0 0] 68
    rw [World.size_alloc, World.size_alloc, World.size_alloc] at this; exact this
  have HB4 := Lib.hid ((below3 w (.cells #[.string lang, asl] 46) (.cells #[.string ⟨#[]⟩] 9) (.cells #[.int .i64 0] 25)).alloc (by rw [World.size_alloc, World.size_alloc, World.size_alloc]; omega) (.cells #[.pointer none, .slice none 0 0] 68))
  have HPP := Lib.hid HP
  clear HP
  go_enter_defers Tryz.func14, Tryz.ntmps14
  go_wp2_with fail
  generalize (((w.alloc (.cells #[.string lang, asl] 46)).alloc (.cells #[.string ⟨#[]⟩] 9)).alloc (.cells #[.int .i64 0] 25)).alloc (.cells #[.pointer none, .slice none 0 0] 68) = w4 at *
  have ho : OutAt w.heap.size (w.heap.size + 1 + 1 + 1) [] w4 := .inl ⟨by omega, .slice none 0 0, R3, World.ownsRowF_of (World.ownsRow_nil _ _ _ _), by simp [Value.ownBlock]⟩
  refine (HPP.out w4 _ HB4.out (by omega) ho).mono ?_
  clear ho R3
  rintro e w5 ⟨rfl, h5, e5⟩
  have HS := Lib.hid (string_any w.heap.size (w.heap.size + 1 + 1 + 1) l w5 h5 hl)
  have HE5 := Lib.hid e5
  have HR1 := Lib.hid (e5.row R1 (by decide) (by omega))
  have HR2 := Lib.hid (e5.row R2 (by decide) (by omega))
  have HB5 := Lib.hid (HB4.out.trans e5.below)
  clear h5 e5 R1 R2 HB4 HE5 HPP
  go_wp2_with fail
  refine HS.out.mono ?_
  rintro e w6 ⟨rfl, b6, o6⟩
  have e6 : Ekp w.heap.size (w.heap.size + 1 + 1 + 1) w5 w6 := ⟨b6, o6⟩
  have HR3 := Lib.hid (e6.row HR1.out (by decide) (by omega))
  have HR4 := Lib.hid (e6.row HR2.out (by decide) (by omega))
  have HB6 := Lib.hid (HB5.out.trans b6)
  clear e6 b6 o6 HR1 HR2 HB5 HS
  have z1 := HR3.out.thaw 0
  have z2 := HR4.out.thaw 0
  have c1 := HR3.out.cell (i := 0) rfl
  have c2 := HR4.out.cell (i := 0) rfl
  have HQ1 : Hid (Row ((w6.setCell ⟨w.heap.size + 1, 0, none⟩ (.string ⟨l.toArray⟩)).setCell ⟨w.heap.size + 1 + 1, 0, none⟩ (.int .i64 0)) (w.heap.size + 1) 9 [.string ⟨l.toArray⟩]) := Lib.hid (Row.keep (Row.set (cs := [.string ⟨#[]⟩]) HR3.out 0 (.string ⟨l.toArray⟩)) (Below.heap_setCell _ _ _ _ (by simp)))
  have HQ2 : Hid (Row ((w6.setCell ⟨w.heap.size + 1, 0, none⟩ (.string ⟨l.toArray⟩)).setCell ⟨w.heap.size + 1 + 1, 0, none⟩ (.int .i64 0)) (w.heap.size + 1 + 1) 25 [.int .i64 0]) := Lib.hid (Row.set (cs := [.int .i64 0]) (Row.keep HR4.out (Below.heap_setCell _ _ _ _ (by simp))) 0 (.int .i64 0))
  have HB8 : Hid (Below w.heap.size w ((w6.setCell ⟨w.heap.size + 1, 0, none⟩ (.string ⟨l.toArray⟩)).setCell ⟨w.heap.size + 1 + 1, 0, none⟩ (.int .i64 0))) := Lib.hid ((HB6.out.setCell (p := ⟨w.heap.size + 1, 0, none⟩) (Nat.le_succ _) _).setCell (p := ⟨w.heap.size + 1 + 1, 0, none⟩) (Nat.le_trans (Nat.le_succ _) (Nat.le_succ _)) _)
  go_wp2
  generalize (w6.setCell ⟨w.heap.size + 1, 0, none⟩ (.string ⟨l.toArray⟩)).setCell ⟨w.heap.size + 1 + 1, 0, none⟩ (.int .i64 0) = w8 at *
  refine leaves_cons (f := 25) (args := #[.pointer (some ⟨w.heap.size + 1, 0, none⟩), .pointer (some ⟨w.heap.size + 1 + 1, 0, none⟩)]) (by simp) (by simp [go_sem]) ?_
  refine (idle_any _ _ _).mono ?_
  rintro e u' w9 ⟨rfl, rfl, rfl⟩
  have d1 := HQ1.out.cell (i := 0) rfl
  have d2 := HQ2.out.cell (i := 0) rfl
  simp [Leaves, settle, results, Tryz.results14, go_sem, d1, d2]
  exact HB8.out
end Go.Proofs.YtlmaafmhadbiaaaGreatDoor
