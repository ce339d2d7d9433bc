/- mixed: the eight words behind a block. -/
import Derived.Test.YtmaafhhdbhkplaaDoorSched
namespace Go.Proofs.YtmaafhhdbhkplaaDoor
open Go.RowKit

theorem info52 : (Tryd.prog.info? 69).map (·.size) = some 8 := by kernel_rfl
theorem info53 : (Tryd.prog.info? 70).map (·.size) = some 64 := by kernel_rfl
abbrev z8 : Array Value := #[.int .u32 0, .int .u32 0, .int .u32 0, .int .u32 0, .int .u32 0, .int .u32 0, .int .u32 0, .int .u32 0]
theorem run_index8 (w : World) (cs : Array Value) (k : Nat) (v : Value) (hv : cs[k]? = some v) (hk : k < 8) : (Instr.index 69 (.agg cs) (.int .i64 k)).run Tryd.prog w = .ok v w := by
  have h1 : 0 ≤ (k : Int) ∧ (k : Int) < 8 := by omega
  simp [Instr.index, run_underlying Tryd.underlying69, asIntOf, go_sem, h1]
  rw [if_pos hk, hv]
  rfl
/-- One of eight words, which are a value. -/
theorem wpList_index8 {ops : Array Oper} {rest : List Oper} {op : Oper} {a : Act} {w : World} {Q : Exit → Act → World → Prop} (hgd : op.guard = none) (x y : Operand) (ho : op.op = .index 69 x y)
    (cs : Array Value) (k : Nat) (v : Value) (hx : a.eval x = .agg cs) (hy : a.eval y = .int .i64 k) (hv : cs[k]? = some v) (hk : k < 8)
    (h : wpList Tryd.prog ops Q rest (a.put op.dst v) w) : wpList Tryd.prog ops Q (op :: rest) a w :=
  wpList_plain hgd fun _ hK => by
    unfold Oper.wp execOp
    simp only [ho, hx, hy, Sem.run_bind, run_index8 w cs k v hv hk, Sem.run_pure, Result.andThen_ok]
    exact hK _ _ h
theorem list_length (s : S8) : s.list.length = 8 := rfl
theorem S8.eta (s : S8) : s = ⟨s.a, s.b, s.c, s.d, s.e, s.f, s.g, s.h⟩ := rfl

/-- The first i words of the sums, then those that were. -/
def upd (s r : S8) (i : Nat) : List Int := (addF s r).list.take i ++ s.list.drop i

/-- A word is read, in a region that only reads. -/
theorem quiet_load35 {o : Oper} {a : Act} {K : Act → Prop} {src : Nat} (w3 : World) (N i : Nat) (x : Int) (ho : o.op = .load 56 (.tmp src)) (c0 : w3.cell? ⟨N, i, none⟩ = some (.int .u32 x)) (ha : a.eval (.tmp src) = .pointer (some ⟨N, i, none⟩)) (h : K (a.put o.dst (.int .u32 x))) : Oper.quiet Tryd.prog o a (fun w' => ∃ n, w' = w3.drewN n) K := by
  refine ⟨.int .u32 x, fun w' hw => ?_, h⟩
  obtain ⟨n, rfl⟩ := hw
  have c1 : (w3.drewN n).cell? ⟨N, i, none⟩ = some (.int .u32 x) := c0
  unfold Oper.quietAt execOp
  simp only [ho, ha]
  simp [go_sem, c1, Oper.quietUpon]

set_option maxHeartbeats 1000000 in
set_option maxRecDepth 100000 in
theorem mixed_any (s : S8) (p : Bs) (w : World) (hs : s.Ok) (hp : p.length = 64) (htab : Tab w) :
    Calls Tryd.prog 47 #[.agg (u32s s.list).toArray, .agg (Lib.byteCells p).toArray] w fun e w' => e = .returned (.agg (u32s (mixF kL s p).list).toArray) ∧ Below w.heap.size w w' := by
  have HS : Hid (∀ W, Calls Tryd.prog 52 #[.agg (Lib.byteCells p).toArray] W fun e w' => e = .returned (.agg ((schF p).map (Value.int .u32)).toArray) ∧ Below W.heap.size W w') := Lib.hid (fun W => schedule_any p W hp)
  have HP := Lib.hid hp
  have HTab := Lib.hid htab
  have HI : Hid ((Tryd.prog.info? 70).map (·.size) = some (Lib.byteCells p).length) := Lib.hid (by rw [info53, Lib.byteCells, List.length_map, hp])
  clear hp htab
  generalize hL : u32s s.list = L
  have HL := Lib.hid hL
  clear hL
  go_enter Tryd.func47, Tryd.ntmps47
  have R0 : Hid (Row (((w.alloc (.cells (L).toArray 69)).alloc (.cells (Lib.byteCells p).toArray 70)).alloc (.cells z8 69)) w.heap.size 69 (L)) := Lib.hid (((row_new w (L).toArray 69).alloc _).alloc _)
  have R1 : Hid (Row (((w.alloc (.cells (L).toArray 69)).alloc (.cells (Lib.byteCells p).toArray 70)).alloc (.cells z8 69)) (w.heap.size + 1) 70 (Lib.byteCells p)) := Lib.hid (by
    have := (row_new (w.alloc (.cells (L).toArray 69)) (Lib.byteCells p).toArray 70).alloc (.cells z8 69)
    simpa using this)
  have R2 : Hid (Row (((w.alloc (.cells (L).toArray 69)).alloc (.cells (Lib.byteCells p).toArray 70)).alloc (.cells z8 69)) (w.heap.size + 1 + 1) 69 (u32s (List.replicate 8 0))) := Lib.hid (by
    have := row_new ((w.alloc (.cells (L).toArray 69)).alloc (.cells (Lib.byteCells p).toArray 70)) z8 69
    simpa using this)
  have HB : Hid (Below w.heap.size w (((w.alloc (.cells (L).toArray 69)).alloc (.cells (Lib.byteCells p).toArray 70)).alloc (.cells z8 69))) := Lib.hid (below3 w _ _ _)
  go_wp2_with ((refine wpList_load_mid rfl 70 _ rfl (w.heap.size + 1) 0 rfl (Lib.byteCells p) _ R1.out.range Tryd.underlying70 rfl HI.out ?_))
  have HSZ : Hid ((((w.alloc (.cells (L).toArray 69)).alloc (.cells (Lib.byteCells p).toArray 70)).alloc (.cells z8 69)).heap.size = w.heap.size + 3) := Lib.hid (by simp)
  generalize ((w.alloc (.cells (L).toArray 69)).alloc (.cells (Lib.byteCells p).toArray 70)).alloc (.cells z8 69) = w1 at *
  refine (HS.out w1).mono ?_
  rintro e w2 ⟨rfl, hb2⟩
  have hl : (u32s (schF p)).length = 64 := by rw [List.length_map, schF_length]
  have hw := schF_wd p
  have hwl := schF_length p
  generalize hS : schF p = S at hl hw hwl ⊢
  have HSS := Lib.hid hS
  have HW := Lib.hid hw
  have HWL := Lib.hid hwl
  clear hS hw hwl
  have R0' : Hid (Row w2 w.heap.size 69 (L)) := Lib.hid (R0.out.below hb2)
  have R2' : Hid (Row w2 (w.heap.size + 1 + 1) 69 (u32s (List.replicate 8 0))) := Lib.hid (R2.out.below hb2)
  have HT' : Hid (Tab w2) := Lib.hid ((HTab.out.below HB.out).below hb2)
  have HB' : Hid (Below w.heap.size w w2) := Lib.hid (below_trans HB.out hb2)
  have hz : w.heap.size + 3 ≤ w2.heap.size := by rw [← HSZ.out]; exact hb2.size
  clear R0 R1 R2 HB hb2 HSZ HS HI HP HTab
  have HTH : Hid ((w2.alloc (.cells z64 79)).there w2.heap.size 0 (u32s S).toArray.size) := Lib.hid ((row_new w2 z64 79).there 0 _ (by rw [List.size_toArray, hl]; simp))
  have HI2 : Hid ((Tryd.prog.info? 79).map (·.size) = some (u32s S).toArray.size) := Lib.hid (by rw [List.size_toArray, hl]; exact info67)
  have RS : Hid (Row ((w2.alloc (.cells z64 79)).setCells w2.heap.size 0 (u32s S).toArray.toList) w2.heap.size 79 (u32s S)) := Lib.hid ((row_new w2 z64 79).setArr _ (by rw [hl]; rfl))
  have HBT : Hid (But w2.heap.size (w2.alloc (.cells z64 79)) ((w2.alloc (.cells z64 79)).setCells w2.heap.size 0 (u32s S).toArray.toList)) := Lib.hid (but_setCells _ _ _ _)
  clear hl
  go_wp2_with ((refine wpList_store_row rfl rfl 79 _ _ rfl w2.heap.size 0 (u32s S).toArray rfl rfl HTH.out HI2.out (one_u32s _) ?_))
  have R0 : Hid (Row ((w2.alloc (.cells z64 79)).setCells w2.heap.size 0 (u32s S).toArray.toList) w.heap.size 69 (L)) := Lib.hid (HBT.out.row (R0'.out.alloc _) (by omega))
  have R2 : Hid (Row ((w2.alloc (.cells z64 79)).setCells w2.heap.size 0 (u32s S).toArray.toList) (w.heap.size + 1 + 1) 69 (u32s (List.replicate 8 0))) := Lib.hid (HBT.out.row (R2'.out.alloc _) (by omega))
  have HT : Hid (Tab ((w2.alloc (.cells z64 79)).setCells w2.heap.size 0 (u32s S).toArray.toList)) := Lib.hid ((HT'.out.below (below1 _ _)).keep (HBT.out.block 0 (by omega)))
  have HB : Hid (Below w.heap.size w ((w2.alloc (.cells z64 79)).setCells w2.heap.size 0 (u32s S).toArray.toList)) := Lib.hid ((below_trans HB'.out (below1 _ _)).trans (HBT.out.below (by omega)))
  generalize (w2.alloc (.cells z64 79)).setCells w2.heap.size 0 (u32s S).toArray.toList = w3 at *
  generalize w2.heap.size = M at *
  clear HTH HI2 HBT HB' HT' R0' R2'
  clear w1 w2
  have c0 := R0.out.cell (i := 0) (v := .int .u32 s.a) (by rw [← HL.out]; rfl)
  have c1 := R0.out.cell (i := 1) (v := .int .u32 s.b) (by rw [← HL.out]; rfl)
  have c2 := R0.out.cell (i := 2) (v := .int .u32 s.c) (by rw [← HL.out]; rfl)
  have c3 := R0.out.cell (i := 3) (v := .int .u32 s.d) (by rw [← HL.out]; rfl)
  have c4 := R0.out.cell (i := 4) (v := .int .u32 s.e) (by rw [← HL.out]; rfl)
  have c5 := R0.out.cell (i := 5) (v := .int .u32 s.f) (by rw [← HL.out]; rfl)
  have c6 := R0.out.cell (i := 6) (v := .int .u32 s.g) (by rw [← HL.out]; rfl)
  have c7 := R0.out.cell (i := 7) (v := .int .u32 s.h) (by rw [← HL.out]; rfl)
  go_wp2
  refine wp_region_quiet_lit (by kernel_rfl) (by kernel_rfl) ?_
  go_big_quiet_step (fail)
  go_big_quiet_want
  refine quiet_load35 w3 w.heap.size 0 s.a rfl c0 rfl ?_
  go_big_quiet_on
  simp only [Act.put, List.setIfInBounds_toArray, List.set_cons_succ, List.set_cons_zero]
  go_big_quiet_step (fail)
  go_big_quiet_want
  refine quiet_load35 w3 w.heap.size 1 s.b rfl c1 rfl ?_
  go_big_quiet_on
  simp only [Act.put, List.setIfInBounds_toArray, List.set_cons_succ, List.set_cons_zero]
  go_big_quiet_step (fail)
  go_big_quiet_want
  refine quiet_load35 w3 w.heap.size 2 s.c rfl c2 rfl ?_
  go_big_quiet_on
  simp only [Act.put, List.setIfInBounds_toArray, List.set_cons_succ, List.set_cons_zero]
  go_big_quiet_step (fail)
  go_big_quiet_want
  refine quiet_load35 w3 w.heap.size 3 s.d rfl c3 rfl ?_
  go_big_quiet_on
  simp only [Act.put, List.setIfInBounds_toArray, List.set_cons_succ, List.set_cons_zero]
  go_big_quiet_step (fail)
  go_big_quiet_step (fail)
  go_big_quiet_step (fail)
  go_big_quiet_step (fail)
  refine wpQuiet_nil ?_
  intro _ hw'
  obtain ⟨nq, hw''⟩ := hw'
  subst hw''
  have HSA : Hid (Same w3 (w3.drewN nq)) := Lib.hid ((Same.refl w3).drewN nq)
  have d4 : (w3.drewN nq).cell? ⟨w.heap.size, 4, none⟩ = some (.int .u32 s.e) := (HSA.out.cell _).trans c4
  have d5 : (w3.drewN nq).cell? ⟨w.heap.size, 5, none⟩ = some (.int .u32 s.f) := (HSA.out.cell _).trans c5
  have d6 : (w3.drewN nq).cell? ⟨w.heap.size, 6, none⟩ = some (.int .u32 s.g) := (HSA.out.cell _).trans c6
  have d7 : (w3.drewN nq).cell? ⟨w.heap.size, 7, none⟩ = some (.int .u32 s.h) := (HSA.out.cell _).trans c7
  clear c0 c1 c2 c3 c4 c5 c6 c7
  generalize w3.drewN nq = w4 at *
  go_wp2
  refine wp_region_quiet_lit (by kernel_rfl) (by kernel_rfl) ?_
  go_big_quiet_step (fail)
  go_big_quiet_want
  refine quiet_load35 w4 w.heap.size 4 s.e rfl d4 rfl ?_
  go_big_quiet_on
  simp only [Act.put, List.setIfInBounds_toArray, List.set_cons_succ, List.set_cons_zero]
  go_big_quiet_step (fail)
  go_big_quiet_want
  refine quiet_load35 w4 w.heap.size 5 s.f rfl d5 rfl ?_
  go_big_quiet_on
  simp only [Act.put, List.setIfInBounds_toArray, List.set_cons_succ, List.set_cons_zero]
  go_big_quiet_step (fail)
  go_big_quiet_want
  refine quiet_load35 w4 w.heap.size 6 s.g rfl d6 rfl ?_
  go_big_quiet_on
  simp only [Act.put, List.setIfInBounds_toArray, List.set_cons_succ, List.set_cons_zero]
  go_big_quiet_step (fail)
  go_big_quiet_want
  refine quiet_load35 w4 w.heap.size 7 s.h rfl d7 rfl ?_
  go_big_quiet_on
  simp only [Act.put, List.setIfInBounds_toArray, List.set_cons_succ, List.set_cons_zero]
  go_big_quiet_step (fail)
  go_big_quiet_step (fail)
  go_big_quiet_step (fail)
  go_big_quiet_step (fail)
  refine wpQuiet_nil ?_
  intro _ hw'
  obtain ⟨nq, hw''⟩ := hw'
  subst hw''
  have HSB : Hid (Same w3 (w4.drewN nq)) := Lib.hid (HSA.out.drewN nq)
  clear d4 d5 d6 d7 HSA
  generalize w4.drewN nq = w5 at *
  go_wp2
  go_loopw [6, 7, 8, 9, 10, 11, 12, 13, 37] (fun xa xb xc xd xe xf xg xh x wr => ∃ (t : Nat) (a b c d e f g h : Int), t ≤ 64 ∧ x = .int .i64 t ∧ xa = .int .u32 a ∧ xb = .int .u32 b ∧ xc = .int .u32 c ∧ xd = .int .u32 d ∧ xe = .int .u32 e ∧ xf = .int .u32 f ∧ xg = .int .u32 g ∧ xh = .int .u32 h ∧ Hid (rnd kL S s t = ⟨a, b, c, d, e, f, g, h⟩) ∧ Hid (Same w3 wr)) (fun _ _ _ _ _ _ _ _ x _ => 64 - (intOf x).toNat)
  case atStart => exact ⟨0, s.a, s.b, s.c, s.d, s.e, s.f, s.g, s.h, by omega, rfl, rfl, rfl, rfl, rfl, rfl, rfl, rfl, rfl, Lib.hid rfl, HSB⟩
  case round =>
    clear HSB
    obtain ⟨t, a, b, c, d, e, f, g, h, ht, rfl, rfl, rfl, rfl, rfl, rfl, rfl, rfl, rfl, HR, HSM⟩ := hrel
    have hok := rnd_ok kL S hs t
    rw [HR.out] at hok
    obtain ⟨ha, hb, hc, hd, he, hf, hg, hh⟩ := hok
    by_cases h64 : t < 64
    · have k1 : wr.cell? ⟨0, t, none⟩ = some (.int .u32 (kL.getD t 0)) := (HSM.out.cell _).trans (HT.out t h64)
      have k2 : wr.cell? ⟨M, t, none⟩ = some (.int .u32 (S.getD t 0)) := (HSM.out.cell _).trans (RS.out.cell (u32s_at S t (by rw [HWL.out]; exact h64)))
      have HE : Hid (rnd kL S s (t + 1) = stepF ⟨a, b, c, d, e, f, g, h⟩ (kL.getD t 0) (S.getD t 0)) := Lib.hid (by rw [rnd, HR.out])
      generalize kL.getD t 0 = kt at *
      generalize S.getD t 0 = wt at *
      have q1 : (t : Int) < 64 := by omega
      go_wp2
      go_quiet ((go_at_call 53; exact Calls.quiet_of_same (rotated_q _ _ _ he (by decide) (by decide))))
      go_wp2_with (go_at_call 53; refine (rotated_any _ _ _ ha (by decide) (by decide)).mono ?_; rintro e' w' ⟨rfl, rfl⟩)
      refine ⟨⟨t + 1, (stepF ⟨a, b, c, d, e, f, g, h⟩ kt wt).a, a, b, c, (stepF ⟨a, b, c, d, e, f, g, h⟩ kt wt).e, e, f, g, by omega, by go_num, rfl, rfl, rfl, rfl, rfl, rfl, rfl, rfl, Lib.hid (HE.out.trans rfl), Lib.hid (HSM.out.drewN nq)⟩, ?_⟩
      simp [intOf]; omega
    · obtain rfl : t = 64 := by omega
      have HM : Hid (mixF kL s p = addF s ⟨a, b, c, d, e, f, g, h⟩) := Lib.hid (by rw [mixF, HSS.out, HR.out])
      have Q0 : Hid (Row wr w.heap.size 69 (u32s (upd s ⟨a, b, c, d, e, f, g, h⟩ 0))) := Lib.hid (by
        have := HSM.out.row R0.out
        rw [← HL.out] at this
        exact this)
      have Q2 : Hid (Row wr (w.heap.size + 1 + 1) 69 (u32s (List.replicate 8 0))) := Lib.hid (HSM.out.row R2.out)
      have HBW : Hid (Below w.heap.size w wr) := Lib.hid (HB.out.trans HSM.out.below)
      clear HR HSM R0 R2 HT HB RS HSS HW HWL HL h64 ht hz
      rw [show (((64 : Nat) : Int)) = (64 : Int) from rfl]
      go_wp2
      go_loopw [109] (fun x wr2 => ∃ i : Nat, i ≤ 8 ∧ x = .int .i64 i ∧ Hid (Row wr2 w.heap.size 69 (u32s (upd s ⟨a, b, c, d, e, f, g, h⟩ i))) ∧ Hid (But w.heap.size wr wr2)) (fun x _ => 8 - (intOf x).toNat)
      case atStart => exact ⟨0, by omega, rfl, Q0, Lib.hid (But.refl _ _)⟩
      case round =>
        clear Q0
        obtain ⟨i, hi, rfl, HR, HW⟩ := hrel
        by_cases h8 : i < 8
        · have hcs : i = 0 ∨ i = 1 ∨ i = 2 ∨ i = 3 ∨ i = 4 ∨ i = 5 ∨ i = 6 ∨ i = 7 := by omega
          clear h8 hi
          rcases hcs with rfl | rfl | rfl | rfl | rfl | rfl | rfl | rfl
          · have c0 := HR.out.cell (i := 0) (v := .int .u32 s.a) rfl
            have f0 := HR.out.thaw 0
            go_wp2_with ((refine wpList_index8 rfl _ _ rfl _ 0 (.int .u32 a) rfl rfl rfl (by decide) ?_))
            refine ⟨⟨1, by omega, rfl, Lib.hid (HR.out.set 0 (.int .u32 ((s.a + a) % 4294967296))), Lib.hid (HW.out.set 0 _)⟩, ?_⟩
            simp [intOf]
          · have c0 := HR.out.cell (i := 1) (v := .int .u32 s.b) rfl
            have f0 := HR.out.thaw 1
            go_wp2_with ((refine wpList_index8 rfl _ _ rfl _ 1 (.int .u32 b) rfl rfl rfl (by decide) ?_))
            refine ⟨⟨2, by omega, rfl, Lib.hid (HR.out.set 1 (.int .u32 ((s.b + b) % 4294967296))), Lib.hid (HW.out.set 1 _)⟩, ?_⟩
            simp [intOf]
          · have c0 := HR.out.cell (i := 2) (v := .int .u32 s.c) rfl
            have f0 := HR.out.thaw 2
            go_wp2_with ((refine wpList_index8 rfl _ _ rfl _ 2 (.int .u32 c) rfl rfl rfl (by decide) ?_))
            refine ⟨⟨3, by omega, rfl, Lib.hid (HR.out.set 2 (.int .u32 ((s.c + c) % 4294967296))), Lib.hid (HW.out.set 2 _)⟩, ?_⟩
            simp [intOf]
          · have c0 := HR.out.cell (i := 3) (v := .int .u32 s.d) rfl
            have f0 := HR.out.thaw 3
            go_wp2_with ((refine wpList_index8 rfl _ _ rfl _ 3 (.int .u32 d) rfl rfl rfl (by decide) ?_))
            refine ⟨⟨4, by omega, rfl, Lib.hid (HR.out.set 3 (.int .u32 ((s.d + d) % 4294967296))), Lib.hid (HW.out.set 3 _)⟩, ?_⟩
            simp [intOf]
          · have c0 := HR.out.cell (i := 4) (v := .int .u32 s.e) rfl
            have f0 := HR.out.thaw 4
            go_wp2_with ((refine wpList_index8 rfl _ _ rfl _ 4 (.int .u32 e) rfl rfl rfl (by decide) ?_))
            refine ⟨⟨5, by omega, rfl, Lib.hid (HR.out.set 4 (.int .u32 ((s.e + e) % 4294967296))), Lib.hid (HW.out.set 4 _)⟩, ?_⟩
            simp [intOf]
          · have c0 := HR.out.cell (i := 5) (v := .int .u32 s.f) rfl
            have f0 := HR.out.thaw 5
            go_wp2_with ((refine wpList_index8 rfl _ _ rfl _ 5 (.int .u32 f) rfl rfl rfl (by decide) ?_))
            refine ⟨⟨6, by omega, rfl, Lib.hid (HR.out.set 5 (.int .u32 ((s.f + f) % 4294967296))), Lib.hid (HW.out.set 5 _)⟩, ?_⟩
            simp [intOf]
          · have c0 := HR.out.cell (i := 6) (v := .int .u32 s.g) rfl
            have f0 := HR.out.thaw 6
            go_wp2_with ((refine wpList_index8 rfl _ _ rfl _ 6 (.int .u32 g) rfl rfl rfl (by decide) ?_))
            refine ⟨⟨7, by omega, rfl, Lib.hid (HR.out.set 6 (.int .u32 ((s.g + g) % 4294967296))), Lib.hid (HW.out.set 6 _)⟩, ?_⟩
            simp [intOf]
          · have c0 := HR.out.cell (i := 7) (v := .int .u32 s.h) rfl
            have f0 := HR.out.thaw 7
            go_wp2_with ((refine wpList_index8 rfl _ _ rfl _ 7 (.int .u32 h) rfl rfl rfl (by decide) ?_))
            refine ⟨⟨8, by omega, rfl, Lib.hid (HR.out.set 7 (.int .u32 ((s.h + h) % 4294967296))), Lib.hid (HW.out.set 7 _)⟩, ?_⟩
            simp [intOf]
        · obtain rfl : i = 8 := by omega
          have HR3 : Hid (Row wr w.heap.size 69 (u32s (mixF kL s p).list)) := Lib.hid (by
            rw [HM.out]
            exact HR.out)
          have HR1 : Hid (Row wr (w.heap.size + 1 + 1) 69 (u32s (List.replicate 8 0))) := Lib.hid (HW.out.row Q2.out (by omega))
          have HB3 : Hid (Below w.heap.size w wr) := Lib.hid (HBW.out.trans (HW.out.below (Nat.le_refl _)))
          clear HR h8 hi HW
          have hl : (u32s (mixF kL s p).list).length = 8 := rfl
          generalize hS : (mixF kL s p).list = Z at HR3 hl
          have HS := Lib.hid hS
          clear hS
          have HI : Hid ((Tryd.prog.info? 69).map (·.size) = some (u32s Z).length) := Lib.hid (by rw [hl]; exact info52)
          have HT : Hid (wr.there (w.heap.size + 1 + 1) 0 (u32s Z).toArray.size) := Lib.hid (HR1.out.there 0 _ (by rw [List.size_toArray, hl]; simp))
          have HI2 : Hid ((Tryd.prog.info? 69).map (·.size) = some (u32s Z).toArray.size) := Lib.hid (by rw [List.size_toArray]; exact HI.out)
          have HR4 : Hid (Row (wr.setCells (w.heap.size + 1 + 1) 0 (u32s Z).toArray.toList) (w.heap.size + 1 + 1) 69 (u32s Z)) := Lib.hid (HR1.out.setArr _ (by rw [hl]; simp))
          have HB4 : Hid (Below w.heap.size w (wr.setCells (w.heap.size + 1 + 1) 0 (u32s Z).toArray.toList)) := Lib.hid (HB3.out.trans ((but_setCells _ _ _ _).below (by omega)))
          clear hl
          go_wp2_with (first
            | (refine wpList_load_mid rfl 69 _ rfl w.heap.size 0 rfl (u32s Z) _ HR3.out.range Tryd.underlying69 rfl HI.out ?_)
            | (refine wpList_store_row rfl rfl 69 _ _ rfl (w.heap.size + 1 + 1) 0 (u32s Z).toArray rfl rfl HT.out HI2.out (one_u32s _) ?_))
          refine bodyPost_ret (v := .agg (u32s Z).toArray) ?_ rfl ⟨by rw [HS.out], HB4.out⟩
          exact results_cell_row rfl _ _ (w.heap.size + 1 + 1) 69 _ (0, 0) _ rfl HR4.out Tryd.underlying69 rfl HI2.out
end Go.Proofs.YtmaafhhdbhkplaaDoor
