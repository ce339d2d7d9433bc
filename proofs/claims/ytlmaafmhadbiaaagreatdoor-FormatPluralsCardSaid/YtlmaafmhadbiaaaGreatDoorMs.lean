/- Right: how many parts, how deep. -/
import Derived.Test.YtlmaafmhadbiaaaGreatDoorVs
import Derived.Laws.EntriesVeiled
namespace Go.Proofs.YtlmaafmhadbiaaaGreatDoor
open Go.RowKit

theorem Fr.to_belowX {a w w' : World} (hb : Below a.heap.size a w) (h : Fr (XX a.heap.size (a.heap.size + 1)) w w') : Below a.heap.size a w' :=
  ⟨h.os.trans hb.os, h.tape.trans hb.tape, h.output.trans hb.output, Nat.le_trans hb.size h.size, fun k hk => (h.block k (Nat.lt_of_lt_of_le hk hb.size) (fun e => by rcases e with e | e <;> omega)).trans (hb.block k hk)⟩

set_option maxHeartbeats 3200000 in
set_option maxRecDepth 100000 in
theorem measured_any (n : Nat) (w : World) (a : Option Addr) (cap : Nat) (xs : List Pt) (hxs : SlP w (Old w) n (.slice a xs.length cap) xs) (hc : cntPs xs ≤ 2000) :
    Calls Tryz.prog 21 #[.slice a xs.length cap] w fun e w' => (∃ C D : Nat, e = .returned (.tuple #[.int .i64 C, .int .i64 D]) ∧ Vi 0 0 0 (cntPs xs) (dpPs xs) C D) ∧ Below w.heap.size w w' := by
  obtain ⟨L, HL⟩ : ∃ L, Hid (L = xs.length) := ⟨_, Lib.hid rfl⟩
  have R0 : Row (((w.alloc (.cells #[.int .i64 0] 3)).alloc (.cells #[.int .i64 0] 3)).alloc (.cells #[visitFn w.heap.size (w.heap.size + 1) (w.heap.size + 1 + 1)] 81)) w.heap.size 3 [.int .i64 0] := ((row_new w #[.int .i64 0] 3).alloc _).alloc _
  have R1 : Row (((w.alloc (.cells #[.int .i64 0] 3)).alloc (.cells #[.int .i64 0] 3)).alloc (.cells #[visitFn w.heap.size (w.heap.size + 1) (w.heap.size + 1 + 1)] 81)) (w.heap.size + 1) 3 [.int .i64 0] := by
    have := (row_new (w.alloc (.cells #[.int .i64 0] 3)) #[.int .i64 0] 3).alloc (.cells #[visitFn w.heap.size (w.heap.size + 1) (w.heap.size + 1 + 1)] 81)
    rw [World.size_alloc] at this; exact this
  have R2 : Row (((w.alloc (.cells #[.int .i64 0] 3)).alloc (.cells #[.int .i64 0] 3)).alloc (.cells #[visitFn w.heap.size (w.heap.size + 1) (w.heap.size + 1 + 1)] 81)) (w.heap.size + 1 + 1) 81 [visitFn w.heap.size (w.heap.size + 1) (w.heap.size + 1 + 1)] := by
    have := row_new ((w.alloc (.cells #[.int .i64 0] 3)).alloc (.cells #[.int .i64 0] 3)) #[visitFn w.heap.size (w.heap.size + 1) (w.heap.size + 1 + 1)] 81
    rw [World.size_alloc, World.size_alloc] at this; exact this
  have HB4 := Lib.hid (below3 w (.cells #[.int .i64 0] 3) (.cells #[.int .i64 0] 3) (.cells #[visitFn w.heap.size (w.heap.size + 1) (w.heap.size + 1 + 1)] 81))
  have HE : Hid (VEnv w.heap.size w.heap.size (w.heap.size + 1) (w.heap.size + 1 + 1) 0 0 (((w.alloc (.cells #[.int .i64 0] 3)).alloc (.cells #[.int .i64 0] 3)).alloc (.cells #[visitFn w.heap.size (w.heap.size + 1) (w.heap.size + 1 + 1)] 81))) := Lib.hid ⟨R0, R1, R2, by omega, by omega, by omega, by omega⟩
  have HX := Lib.hid (SlP.keep hxs (fun b hb => HB4.out.block b hb) (S' := Lt w.heap.size) (fun b hb => hb))
  have HC := Lib.hid (visit_any n w.heap.size w.heap.size (w.heap.size + 1) (w.heap.size + 1 + 1) 0 0 0 _ a cap xs HE.out HX.out (by omega) hc (by omega) (by omega))
  simp only [Int.natCast_zero] at HC
  rw [← HL.out] at HC ⊢
  clear hxs R0 R1 R2 HE HX
  go_enter Tryz.func21, Tryz.ntmps21
  go_wp2_with fail
  generalize (((w.alloc (.cells #[.int .i64 0] 3)).alloc (.cells #[.int .i64 0] 3)).alloc (.cells #[visitFn w.heap.size (w.heap.size + 1) (w.heap.size + 1 + 1)] 81)) = w4 at *
  refine HC.out.mono ?_
  rintro e w5 ⟨rfl, ⟨C, D, he5, hi5, -⟩, hf5⟩
  clear HC
  have HI5 := Lib.hid hi5
  have HB5 := Lib.hid (Fr.to_belowX HB4.out hf5)
  have k0 := he5.cnt.cell (i := 0) rfl
  have k1 := he5.dep.cell (i := 0) rfl
  have z0 := he5.cnt.thaw 0
  have z1 := he5.dep.thaw 0
  have hn : w.heap.size ≠ w.heap.size + 1 := by omega
  have HV := Lib.hid (he5.set C D)
  have k2 : (w5.setCell ⟨w.heap.size, 0, none⟩ (.int .i64 C)).cell? ⟨w.heap.size + 1, 0, none⟩ = some (.int .i64 D) := (World.cell?_setCell_other w5 _ _ _ (fun e => by injection e with e; omega)).trans k1
  clear he5 hi5 hf5
  go_wp2
  go_region
  have HB6 : Hid (Below w.heap.size w ((w5.setCell ⟨w.heap.size, 0, none⟩ (.int .i64 C)).setCell ⟨w.heap.size + 1, 0, none⟩ (.int .i64 D)).drew) := Lib.hid ((HB5.out.setCell (p := ⟨w.heap.size, 0, none⟩) (Nat.le_refl _) _).setCell (p := ⟨w.heap.size + 1, 0, none⟩) (Nat.le_succ _) _).drew
  have e0 : ((w5.setCell ⟨w.heap.size, 0, none⟩ (.int .i64 C)).setCell ⟨w.heap.size + 1, 0, none⟩ (.int .i64 D)).drew.cell? ⟨w.heap.size, 0, none⟩ = some (.int .i64 C) := HV.out.cnt.cell (i := 0) rfl
  have e1 : ((w5.setCell ⟨w.heap.size, 0, none⟩ (.int .i64 C)).setCell ⟨w.heap.size + 1, 0, none⟩ (.int .i64 D)).drew.cell? ⟨w.heap.size + 1, 0, none⟩ = some (.int .i64 D) := HV.out.dep.cell (i := 0) rfl
  generalize ((w5.setCell ⟨w.heap.size, 0, none⟩ (.int .i64 C)).setCell ⟨w.heap.size + 1, 0, none⟩ (.int .i64 D)).drew = w7 at *
  go_wp2
  exact bodyPost_ret (v := .tuple #[.int .i64 C, .int .i64 D]) (by simp [results, Tryz.results21, go_sem, e0, e1]) rfl ⟨⟨C, D, rfl, HI5.out⟩, HB6.out⟩
end Go.Proofs.YtlmaafmhadbiaaaGreatDoor
