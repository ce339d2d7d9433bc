/- schedule: the words of all rounds. -/
import Derived.Test.YtmaafhhdbhkplaaDoorMem
import Derived.Deep.WholeRow
import Derived.Deep.QuietTactic
import Derived.BigQuiet
import Derived.StillTailTactics
import Derived.IntWalk
namespace Go.Proofs.YtmaafhhdbhkplaaDoor
open Go.RowKit

theorem info67 : (Tryd.prog.info? 79).map (·.size) = some 64 := by kernel_rfl
abbrev z64 : Array Value := #[.int .u32 0, .int .u32 0, .int .u32 0, .int .u32 0, .int .u32 0, .int .u32 0, .int .u32 0, .int .u32 0, .int .u32 0, .int .u32 0, .int .u32 0, .int .u32 0, .int .u32 0, .int .u32 0, .int .u32 0, .int .u32 0, .int .u32 0, .int .u32 0, .int .u32 0, .int .u32 0, .int .u32 0, .int .u32 0, .int .u32 0, .int .u32 0, .int .u32 0, .int .u32 0, .int .u32 0, .int .u32 0, .int .u32 0, .int .u32 0, .int .u32 0, .int .u32 0, .int .u32 0, .int .u32 0, .int .u32 0, .int .u32 0, .int .u32 0, .int .u32 0, .int .u32 0, .int .u32 0, .int .u32 0, .int .u32 0, .int .u32 0, .int .u32 0, .int .u32 0, .int .u32 0, .int .u32 0, .int .u32 0, .int .u32 0, .int .u32 0, .int .u32 0, .int .u32 0, .int .u32 0, .int .u32 0, .int .u32 0, .int .u32 0, .int .u32 0, .int .u32 0, .int .u32 0, .int .u32 0, .int .u32 0, .int .u32 0, .int .u32 0, .int .u32 0]
theorem z64_list : z64.toList = u32s (List.replicate 64 0) := rfl
theorem fill_set (l : List Int) (n : Nat) (x : Int) : (l ++ List.replicate (n + 1) 0).set l.length x = (l ++ [x]) ++ List.replicate n 0 := by
  rw [List.set_append_right _ _ (Nat.le_refl _), Nat.sub_self, List.replicate_succ, List.set_cons_zero, List.append_assoc]; rfl

theorem getD_left (l r : List Int) (i : Nat) (h : i < l.length) : (l ++ r).getD i 0 = l.getD i 0 := by
  rw [List.getD_eq_getElem?_getD, List.getD_eq_getElem?_getD, List.getElem?_append_left h]
theorem or_shift (a b i : Nat) (h : b < 2 ^ i) : a * 2 ^ i ||| b = a * 2 ^ i + b := by
  rw [← Nat.shiftLeft_eq, Nat.shiftLeft_add_eq_or_of_lt h]

theorem word_int (a b c d : UInt8) : bits .or .u32 (bits .or .u32 (bits .or .u32 ((a.toNat : Int) % 4294967296 * 16777216 % 4294967296) ((b.toNat : Int) % 4294967296 * 65536 % 4294967296)) ((c.toNat : Int) % 4294967296 * 256 % 4294967296)) ((d.toNat : Int) % 4294967296) = wd4 a b c d := by
  have ha := a.toNat_lt
  have hb := b.toNat_lt
  have hc := c.toNat_lt
  have hd := d.toNat_lt
  have e1 : ((a.toNat : Int) % 4294967296 * 16777216 % 4294967296) = ((a.toNat * 2 ^ 24 : Nat) : Int) := by omega
  have e2 : ((b.toNat : Int) % 4294967296 * 65536 % 4294967296) = ((b.toNat * 2 ^ 16 : Nat) : Int) := by omega
  have e3 : ((c.toNat : Int) % 4294967296 * 256 % 4294967296) = ((c.toNat * 2 ^ 8 : Nat) : Int) := by omega
  have e4 : ((d.toNat : Int) % 4294967296) = ((d.toNat : Nat) : Int) := by omega
  rw [e1, e2, e3, e4, u32_or_nat _ _ (by omega) (by omega), or_shift _ _ 24 (by omega), u32_or_nat _ _ (by omega) (by omega), show a.toNat * 2 ^ 24 + b.toNat * 2 ^ 16 = (a.toNat * 2 ^ 8 + b.toNat) * 2 ^ 16 by omega, or_shift _ _ 16 (by omega), u32_or_nat _ _ (by omega) (by omega), show (a.toNat * 2 ^ 8 + b.toNat) * 2 ^ 16 + c.toNat * 2 ^ 8 = ((a.toNat * 2 ^ 8 + b.toNat) * 2 ^ 8 + c.toNat) * 2 ^ 8 by omega, or_shift _ _ 8 (by omega)]
  unfold wd4
  omega

set_option maxHeartbeats 1000000 in
set_option maxRecDepth 100000 in
theorem schedule_any (p : Bs) (w : World) (hp : p.length = 64) :
    Calls Tryd.prog 52 #[.agg (Lib.byteCells p).toArray] w fun e w' => e = .returned (.agg ((schF p).map (Value.int .u32)).toArray) ∧ Below w.heap.size w w' := by
  have HP := Lib.hid hp
  clear hp
  go_enter Tryd.func52, Tryd.ntmps52
  go_wp2_with fail
  have R0 : Hid (Row (((w.alloc (.cells (Lib.byteCells p).toArray 70)).alloc (.cells z64 79)).alloc (.cells z64 79)) w.heap.size 70 (Lib.byteCells p)) := Lib.hid (((row_new w (Lib.byteCells p).toArray 70).alloc _).alloc _)
  have R1 : Hid (Row (((w.alloc (.cells (Lib.byteCells p).toArray 70)).alloc (.cells z64 79)).alloc (.cells z64 79)) (w.heap.size + 1) 79 (u32s (List.replicate 64 0))) := Lib.hid (by
    have := (row_new (w.alloc (.cells (Lib.byteCells p).toArray 70)) z64 79).alloc (.cells z64 79)
    simpa using this)
  have R2 : Hid (Row (((w.alloc (.cells (Lib.byteCells p).toArray 70)).alloc (.cells z64 79)).alloc (.cells z64 79)) (w.heap.size + 1 + 1) 79 (u32s (List.replicate 64 0))) := Lib.hid (by
    have := row_new ((w.alloc (.cells (Lib.byteCells p).toArray 70)).alloc (.cells z64 79)) z64 79
    simpa using this)
  have HB : Hid (Below w.heap.size w (((w.alloc (.cells (Lib.byteCells p).toArray 70)).alloc (.cells z64 79)).alloc (.cells z64 79))) := Lib.hid (below3 w _ _ _)
  generalize ((w.alloc (.cells (Lib.byteCells p).toArray 70)).alloc (.cells z64 79)).alloc (.cells z64 79) = w1 at *
  go_loopw [8] (fun x wr => ∃ t : Nat, t ≤ 16 ∧ x = .int .i64 t ∧ Hid (Row wr (w.heap.size + 1 + 1) 79 (u32s (w16 p t ++ List.replicate (64 - t) 0))) ∧ Hid (But (w.heap.size + 1 + 1) w1 wr)) (fun x _ => 16 - (intOf x).toNat)
  case atStart => exact ⟨0, by omega, rfl, R2, Lib.hid (But.refl _ _)⟩
  case round =>
    obtain ⟨t, ht, rfl, HR, HW⟩ := hrel
    by_cases h16 : t < 16
    · have hl := HP.out
      have R0' := HW.out.row R0.out (by omega)
      have c0 := R0'.cell (bytes_at p (4 * t) (by omega))
      have c1 := R0'.cell (bytes_at p (4 * t + 1) (by omega))
      have c2 := R0'.cell (bytes_at p (4 * t + 2) (by omega))
      have c3 := R0'.cell (bytes_at p (4 * t + 3) (by omega))
      have c4 := HR.out.cell (u32s_at (w16 p t ++ List.replicate (64 - t) 0) t (by simp [w16_length]; omega))
      have f4 := HR.out.thaw t
      generalize hb0 : p.getD (4 * t) 0 = b0 at *
      generalize hb1 : p.getD (4 * t + 1) 0 = b1 at *
      generalize hb2 : p.getD (4 * t + 2) 0 = b2 at *
      generalize hb3 : p.getD (4 * t + 3) 0 = b3 at *
      have g0 := Lib.hid hb0
      have g1 := Lib.hid hb1
      have g2 := Lib.hid hb2
      have g3 := Lib.hid hb3
      clear hl R0' hb0 hb1 hb2 hb3
      go_wp2
      have e0 : IntKind.i64.wrap (4 * (t : Int)) = 4 * (t : Int) := IntWalk.i64_in _ (by omega)
      have l0 : 0 ≤ 4 * (t : Int) := by omega
      have m0 : 4 * (t : Int) < 64 := by omega
      have n0 : (4 * (t : Int)).toNat = 4 * t := by omega
      have e1 : IntKind.i64.wrap (4 * (t : Int) + 1) = 4 * (t : Int) + 1 := IntWalk.i64_in _ (by omega)
      have l1 : 0 ≤ 4 * (t : Int) + 1 := by omega
      have m1 : 4 * (t : Int) + 1 < 64 := by omega
      have n1 : (4 * (t : Int) + 1).toNat = 4 * t + 1 := by omega
      have e2 : IntKind.i64.wrap (4 * (t : Int) + 2) = 4 * (t : Int) + 2 := IntWalk.i64_in _ (by omega)
      have l2 : 0 ≤ 4 * (t : Int) + 2 := by omega
      have m2 : 4 * (t : Int) + 2 < 64 := by omega
      have n2 : (4 * (t : Int) + 2).toNat = 4 * t + 2 := by omega
      have e3 : IntKind.i64.wrap (4 * (t : Int) + 3) = 4 * (t : Int) + 3 := IntWalk.i64_in _ (by omega)
      have l3 : 0 ≤ 4 * (t : Int) + 3 := by omega
      have m3 : 4 * (t : Int) + 3 < 64 := by omega
      have n3 : (4 * (t : Int) + 3).toNat = 4 * t + 3 := by omega
      have q1 : (t : Int) < 64 := by omega
      go_still_tail 31, (by kernel_rfl)
      go_wp2
      clear e0 e1 e2 e3 n0 n1 n2 n3
      refine ⟨⟨t + 1, by omega, by go_num, Lib.hid ?_, Lib.hid (HW.out.set t _).drew⟩, ?_⟩
      · have h := (HR.out.set t (.int .u32 (wd4 b0 b1 b2 b3)))
        rw [u32s_set] at h
        have e := fill_set (w16 p t) (63 - t) (wd4 b0 b1 b2 b3)
        rw [w16_length, show 63 - t + 1 = 64 - t by omega] at e
        rw [e] at h
        rw [show 64 - (t + 1) = 63 - t by omega, w16, g0.out, g1.out, g2.out, g3.out]
        rw [word_int]
        exact h.keep rfl
      · simp [intOf]; omega
    · obtain rfl : t = 16 := by omega
      have HR2 : Hid (Row wr (w.heap.size + 1 + 1) 79 (u32s (sch (w16 p 16) (16 - 16) ++ List.replicate (64 - 16) 0))) := HR
      clear HR h16 ht R2
      rw [show (((16 : Nat) : Int)) = (16 : Int) from rfl]
      go_wp2
      go_loopw [5] (fun x wr2 => ∃ t : Nat, 16 ≤ t ∧ t ≤ 64 ∧ x = .int .i64 t ∧ Hid (Row wr2 (w.heap.size + 1 + 1) 79 (u32s (sch (w16 p 16) (t - 16) ++ List.replicate (64 - t) 0))) ∧ Hid (But (w.heap.size + 1 + 1) w1 wr2)) (fun x _ => 64 - (intOf x).toNat)
      case atStart => exact ⟨16, by omega, by omega, rfl, HR2, HW⟩
      case round =>
        clear HR2 HW
        obtain ⟨t, ht, ht2, rfl, HR, HW⟩ := hrel
        by_cases h64 : t < 64
        · have HL : Hid ((sch (w16 p 16) (t - 16)).length = t) := Lib.hid (by rw [sch_length, w16_length]; omega)
          have hat : ∀ i, i < t → wr.cell? ⟨w.heap.size + 1 + 1, i, none⟩ = some (.int .u32 ((sch (w16 p 16) (t - 16)).getD i 0)) := fun i hi => by
            have h1 := HR.out.cell (u32s_at (sch (w16 p 16) (t - 16) ++ List.replicate (64 - t) 0) i (by simp [HL.out]; omega))
            rw [h1, getD_left _ _ _ (by rw [HL.out]; exact hi)]
          have k2 := hat (t - 2) (by omega)
          have k7 := hat (t - 7) (by omega)
          have k15 := hat (t - 15) (by omega)
          have k16 := hat (t - 16) (by omega)
          have wall := sch_wd _ (w16_wd p 16) (t - 16)
          have w2 := wall.getD (t - 2)
          have w15 := wall.getD (t - 15)
          have HE : Hid (sch (w16 p 16) (t + 1 - 16) = sch (w16 p 16) (t - 16) ++ [nextF ((sch (w16 p 16) (t - 16)).getD (t - 2) 0) ((sch (w16 p 16) (t - 16)).getD (t - 7) 0) ((sch (w16 p 16) (t - 16)).getD (t - 15) 0) ((sch (w16 p 16) (t - 16)).getD (t - 16) 0)]) := Lib.hid (by
            rw [show t + 1 - 16 = (t - 16) + 1 by omega, sch, show t - 16 + 14 = t - 2 by omega, show t - 16 + 9 = t - 7 by omega, show t - 16 + 1 = t - 15 by omega])
          generalize (sch (w16 p 16) (t - 16)).getD (t - 2) 0 = x2 at *
          generalize (sch (w16 p 16) (t - 16)).getD (t - 7) 0 = x7 at *
          generalize (sch (w16 p 16) (t - 16)).getD (t - 15) 0 = x15 at *
          generalize (sch (w16 p 16) (t - 16)).getD (t - 16) 0 = x16 at *
          have kt := HR.out.cell (u32s_at (sch (w16 p 16) (t - 16) ++ List.replicate (64 - t) 0) t (by simp [HL.out]; omega))
          have ft := HR.out.thaw t
          clear hat wall
          go_wp2
          have e2 : IntKind.i64.wrap ((t : Int) - 2) = (t : Int) - 2 := IntWalk.i64_in _ (by omega)
          have l2 : 0 ≤ (t : Int) - 2 := by omega
          have m2 : (t : Int) - 2 < 64 := by omega
          have n2 : ((t : Int) - 2).toNat = t - 2 := by omega
          have e7 : IntKind.i64.wrap ((t : Int) - 7) = (t : Int) - 7 := IntWalk.i64_in _ (by omega)
          have l7 : 0 ≤ (t : Int) - 7 := by omega
          have m7 : (t : Int) - 7 < 64 := by omega
          have n7 : ((t : Int) - 7).toNat = t - 7 := by omega
          have e15 : IntKind.i64.wrap ((t : Int) - 15) = (t : Int) - 15 := IntWalk.i64_in _ (by omega)
          have l15 : 0 ≤ (t : Int) - 15 := by omega
          have m15 : (t : Int) - 15 < 64 := by omega
          have n15 : ((t : Int) - 15).toNat = t - 15 := by omega
          have e16 : IntKind.i64.wrap ((t : Int) - 16) = (t : Int) - 16 := IntWalk.i64_in _ (by omega)
          have l16 : 0 ≤ (t : Int) - 16 := by omega
          have m16 : (t : Int) - 16 < 64 := by omega
          have n16 : ((t : Int) - 16).toNat = t - 16 := by omega
          go_quiet ((go_at_call 53; exact Calls.quiet_of_same (rotated_q _ _ _ w2 (by decide) (by decide))))
          have HR' : Hid (Row (wr.drewN nq) (w.heap.size + 1 + 1) 79 (u32s (sch (w16 p 16) (t - 16) ++ List.replicate (64 - t) 0))) := Lib.hid (HR.out.keep rfl)
          have HW' : Hid (But (w.heap.size + 1 + 1) w1 (wr.drewN nq)) := Lib.hid (HW.out.drewN nq)
          have j2 : (wr.drewN nq).cell? ⟨w.heap.size + 1 + 1, t - 2, none⟩ = some (.int .u32 x2) := k2
          have j7 : (wr.drewN nq).cell? ⟨w.heap.size + 1 + 1, t - 7, none⟩ = some (.int .u32 x7) := k7
          have j15 : (wr.drewN nq).cell? ⟨w.heap.size + 1 + 1, t - 15, none⟩ = some (.int .u32 x15) := k15
          have j16 : (wr.drewN nq).cell? ⟨w.heap.size + 1 + 1, t - 16, none⟩ = some (.int .u32 x16) := k16
          have jt : (wr.drewN nq).cell? ⟨w.heap.size + 1 + 1, t, none⟩ = _ := kt
          have fj : (wr.drewN nq).frozen? ⟨w.heap.size + 1 + 1, t, none⟩ = false := ft
          clear HR HW k2 k7 k15 k16 kt ft
          generalize wr.drewN nq = wq at *
          go_wp2
          go_quiet ((go_at_call 53; exact Calls.quiet_of_same (rotated_q _ _ _ w15 (by decide) (by decide))))
          have HR2 : Hid (Row (wq.drewN nq) (w.heap.size + 1 + 1) 79 (u32s (sch (w16 p 16) (t - 16) ++ List.replicate (64 - t) 0))) := Lib.hid (HR'.out.keep rfl)
          have HW2 : Hid (But (w.heap.size + 1 + 1) w1 (wq.drewN nq)) := Lib.hid (HW'.out.drewN nq)
          have k7 : (wq.drewN nq).cell? ⟨w.heap.size + 1 + 1, t - 7, none⟩ = some (.int .u32 x7) := j7
          have k16 : (wq.drewN nq).cell? ⟨w.heap.size + 1 + 1, t - 16, none⟩ = some (.int .u32 x16) := j16
          have kt : (wq.drewN nq).cell? ⟨w.heap.size + 1 + 1, t, none⟩ = _ := jt
          have fk : (wq.drewN nq).frozen? ⟨w.heap.size + 1 + 1, t, none⟩ = false := fj
          clear HR' HW' j2 j7 j15 j16 jt fj
          generalize wq.drewN nq = wz at *
          rw [show bits BinOp.xor IntKind.u32 (bits BinOp.xor IntKind.u32 (rot x2 17) (rot x2 19)) (x2 / 1024) = s1F x2 from rfl, show bits BinOp.xor IntKind.u32 (bits BinOp.xor IntKind.u32 (rot x15 7) (rot x15 18)) (x15 / 8) = s0F x15 from rfl]
          go_wp2
          have y7 : (7 : Int) ≤ (t : Int) := by omega
          have y7' : 7 ≤ t := by omega
          have y16 : (16 : Int) ≤ (t : Int) := by omega
          go_still_tail 15, (by kernel_rfl)
          go_wp2
          clear e2 e7 e15 e16 n2 n7 n15 n16
          refine ⟨⟨t + 1, by omega, by omega, by go_num, Lib.hid ?_, Lib.hid (HW2.out.set t _).drew⟩, ?_⟩
          · have h := (HR2.out.set t (.int .u32 (nextF x2 x7 x15 x16)))
            rw [u32s_set] at h
            have e := fill_set (sch (w16 p 16) (t - 16)) (63 - t) (nextF x2 x7 x15 x16)
            rw [HL.out, show 63 - t + 1 = 64 - t by omega] at e
            rw [e] at h
            rw [show 64 - (t + 1) = 63 - t by omega, HE.out]
            exact h.keep rfl
          · simp [intOf]; omega
        · obtain rfl : t = 64 := by omega
          have HR3 : Hid (Row wr (w.heap.size + 1 + 1) 79 (u32s (schF p))) := Lib.hid (by
            have := HR.out
            simp only [Nat.sub_self, List.replicate_zero, List.append_nil] at this
            exact this)
          have HR1 : Hid (Row wr (w.heap.size + 1) 79 (u32s (List.replicate 64 0))) := Lib.hid (HW.out.row R1.out (by omega))
          have HB3 : Hid (Below w.heap.size w wr) := Lib.hid (HB.out.trans (HW.out.below (by omega)))
          clear HR h64 ht ht2 HW
          have hl : (u32s (schF p)).length = 64 := by rw [List.length_map, schF_length]
          generalize hS : schF p = S at HR3 hl
          have HS := Lib.hid hS
          clear hS
          have HI : Hid ((Tryd.prog.info? 79).map (·.size) = some (u32s S).length) := Lib.hid (by rw [hl]; exact info67)
          have HT : Hid (wr.there (w.heap.size + 1) 0 (u32s S).toArray.size) := Lib.hid (HR1.out.there 0 _ (by rw [List.size_toArray, hl]; simp))
          have HI2 : Hid ((Tryd.prog.info? 79).map (·.size) = some (u32s S).toArray.size) := Lib.hid (by rw [List.size_toArray]; exact HI.out)
          have HR4 : Hid (Row (wr.setCells (w.heap.size + 1) 0 (u32s S).toArray.toList) (w.heap.size + 1) 79 (u32s S)) := Lib.hid (HR1.out.setArr _ (by rw [hl]; simp))
          have HB4 : Hid (Below w.heap.size w (wr.setCells (w.heap.size + 1) 0 (u32s S).toArray.toList)) := Lib.hid (HB3.out.trans ((but_setCells _ _ _ _).below (by omega)))
          clear hl
          go_wp2_with (first
            | (refine wpList_load_mid rfl 79 _ rfl (w.heap.size + 1 + 1) 0 rfl (u32s S) _ HR3.out.range Tryd.underlying79 rfl HI.out ?_)
            | (refine wpList_store_mid rfl 79 _ _ rfl (w.heap.size + 1) 0 (u32s S).toArray rfl rfl HT.out HI2.out (one_u32s _) ?_))
          refine bodyPost_ret (v := .agg (u32s S).toArray) ?_ rfl ⟨by rw [HS.out], HB4.out⟩
          exact results_cell_row rfl _ _ (w.heap.size + 1) 79 _ (0, 0) _ rfl HR4.out Tryd.underlying79 rfl HI2.out
end Go.Proofs.YtmaafhhdbhkplaaDoor
