/- The reader: a span, spans. -/
import Derived.Test.YtlmaafmhadbiaaaGreatDoorURd2
namespace Go.Proofs.YtlmaafmhadbiaaaGreatDoor.Pu
open Go.RowKit

theorem span_yes {l : List UInt8} {S : St} (h : nextF l [46] (numF l S).2 = true) : spanF l S = (⟨(numF l S).1, (numF l (wordF l [46, 46] (numF l S).2)).1⟩, (numF l (wordF l [46, 46] (numF l S).2)).2) := by unfold spanF; rw [if_pos h]
theorem span_no {l : List UInt8} {S : St} (h : nextF l [46] (numF l S).2 = false) : spanF l S = (⟨(numF l S).1, (numF l S).1⟩, (numF l S).2) := by unfold spanF; rw [h]; rfl
theorem Row.put2 {w : World} {b : Nat} {t : TypeId} {x0 x1 : Value} (h : Row w b t [x0, x1]) (a c : Value) : Row ((w.setCell ⟨b, 0, none⟩ a).setCell ⟨b, 1, none⟩ c) b t [a, c] := (h.set 0 a).set 1 c
theorem Row.put3 {w : World} {b : Nat} {t : TypeId} {x0 x1 x2 : Value} (h : Row w b t [x0, x1, x2]) (a c d : Value) : Row (((w.setCell ⟨b, 0, none⟩ a).setCell ⟨b, 1, none⟩ c).setCell ⟨b, 2, none⟩ d) b t [a, c, d] := ((h.set 0 a).set 1 c).set 2 d
theorem But.fr {g : Nat} {w w1 w' : World} {X : Nat → Prop} (h : Fr X w w1) (k : But g w1 w') (hg : w.heap.size ≤ g) : Fr X w w' :=
  ⟨k.os.trans h.os, k.tape.trans h.tape, k.output.trans h.output, by rw [k.size]; exact h.size, fun i hi hx => (k.block i (by omega)).trans (h.block i hi hx)⟩
theorem But.put2 (g : Nat) (w : World) (a b : Value) : But g w ((w.setCell ⟨g, 0, none⟩ a).setCell ⟨g, 1, none⟩ b) := ((But.refl g w).set 0 a).set 1 b
theorem But.put3 (g : Nat) (w : World) (a b c : Value) : But g w (((w.setCell ⟨g, 0, none⟩ a).setCell ⟨g, 1, none⟩ b).setCell ⟨g, 2, none⟩ c) := (((But.refl g w).set 0 a).set 1 b).set 2 c
theorem RdAt.but {w w' : World} {rb g : Nat} {s : BA} {S : St} (h : RdAt w rb s S) (hb : But g w w') (hg : rb ≠ g) : RdAt w' rb s S := h.keep (hb.block rb hg)
theorem fr_alloc (X : Nat → Prop) (w : World) (o : Obj) : Fr X w (w.alloc o) := (Fr.refl X w).alloc o
theorem Row.fr {w w' : World} {X : Nat → Prop} {b : Nat} {t : TypeId} {cs : List Value} (h : Row w b t cs) (hf : Fr X w w') (hx : ¬ X b) : Row w' b t cs := h.keep (hf.block b h.lt hx)

set_option maxHeartbeats 3200000 in
set_option maxRecDepth 100000 in
theorem span_any (rb : Nat) (s : BA) (S : St) (w : World) (hs : s.size ≤ 400) (hS : S.1 ≤ s.size) (hR : RdAt w rb s S) :
    Calls Tryz.prog 121 #[.pointer (some ⟨rb, 0, none⟩)] w fun e w' => e = .returned (.agg #[.int .i64 (spanF s.data.toList S).1.lo, .int .i64 (spanF s.data.toList S).1.hi]) ∧ RdAt w' rb s (spanF s.data.toList S).2 ∧ Fr (· = rb) w w' := by
  have HR := Lib.hid hR
  have hlr := hR.lt
  have HT := Lib.hid (ge_num s.data.toList S)
  clear hR
  have HN1 := Lib.hid (number_any rb s S _ hs hS (HR.out.alloc (.cells #[.int .i64 0, .int .i64 0] 130)))
  go_enter Tryz.func121, Tryz.ntmps121
  go_wp2_with fail
  refine HN1.out.mono ?_
  rintro e w1 ⟨rfl, hr1, hf1⟩
  have HQ1 := Lib.hid ((row_new w #[.int .i64 0, .int .i64 0] 130).fr hf1 (by omega))
  have HF1 := Lib.hid ((fr_alloc (· = rb) w _).trans hf1)
  have HR1 := Lib.hid hr1
  clear hr1 hf1 HN1
  have HTS : Hid ((numF s.data.toList S).2.1 ≤ s.size) := Lib.hid (by have := HT.out.2 (by simpa using hS); simpa using this)
  have HN2 : Hid (Calls Tryz.prog 94 #[.pointer (some ⟨rb, 0, none⟩), .string ⟨#[46]⟩] w1 fun e w' => e = .returned (.bool (nextF s.data.toList [46] (numF s.data.toList S).2)) ∧ Same w1 w') := Lib.hid (next_any rb s ⟨#[46]⟩ _ w1 hs HTS.out HR1.out)
  have hE0 := fun h => span_no (l := s.data.toList) (S := S) h
  have hE1 := fun h => span_yes (l := s.data.toList) (S := S) h
  generalize numF s.data.toList S = r at *
  obtain ⟨n, T⟩ := r
  simp only at HTS HR1 HN2 hE0 hE1
  have HE0 := Lib.hid hE0
  have HE1 := Lib.hid hE1
  clear hE0 hE1
  go_wp2_with fail
  refine HN2.out.mono ?_
  rintro e w2 ⟨rfl, hw2⟩
  have HQ2 := Lib.hid (hw2.row HQ1.out)
  have HF2 := Lib.hid (HF1.out.trans (Fr.of_same hw2))
  have HR2 := Lib.hid (HR1.out.same hw2)
  clear HN2 hw2 HQ1
  cases hb : nextF s.data.toList [46] T with
  | false =>
    have HE := Lib.hid (HE0.out hb)
    clear hb HE0 HE1
    have d0 := HQ2.out.cell (i := 0) rfl
    have d1 := HQ2.out.cell (i := 1) rfl
    have z0 := HQ2.out.thaw 0
    have z1 := HQ2.out.thaw 1
    go_wp2
    have Q3 := HQ2.out.put2 (.int .i64 n) (.int .i64 n)
    have B3 := But.put2 w.heap.size w2 (.int .i64 n) (.int .i64 n)
    generalize ((w2.setCell ⟨w.heap.size, 0, none⟩ (.int .i64 n)).setCell ⟨w.heap.size, 1, none⟩ (.int .i64 n)) = w3 at Q3 B3 ⊢
    have e0 := Q3.cell (i := 0) rfl
    have e1 := Q3.cell (i := 1) rfl
    exact bodyPost_ret (v := .agg #[.int .i64 n, .int .i64 n]) (by simp [results, Tryz.results121, go_sem, e0, e1]) rfl ⟨by rw [HE.out], by rw [HE.out]; exact HR2.out.but B3 (by omega), B3.fr HF2.out (Nat.le_refl _)⟩
  | true =>
    have HE := Lib.hid (HE1.out hb)
    have HG := Lib.hid (ge_word s.data.toList [46, 46] T)
    have HTW : Hid ((wordF s.data.toList [46, 46] T).1 ≤ s.size) := Lib.hid (by have := HG.out.2 (by simpa using HTS.out); simpa using this)
    have HWD : Hid (Calls Tryz.prog 77 #[.pointer (some ⟨rb, 0, none⟩), .string ⟨#[46, 46]⟩] w2 fun e w' => e = .returned (.tuple #[]) ∧ RdAt w' rb s (wordF s.data.toList [46, 46] T) ∧ Fr (· = rb) w2 w') := Lib.hid (word_any rb s ⟨#[46, 46]⟩ T w2 hs (by decide) HTS.out HR2.out)
    clear hb HE0 HE1
    go_wp2_with fail
    refine HWD.out.mono ?_
    rintro e w3 ⟨rfl, hr3, hf3⟩
    have HQ3 := Lib.hid (HQ2.out.fr hf3 (by omega))
    have HF3 := Lib.hid (HF2.out.trans hf3)
    have HN3 := Lib.hid (number_any rb s _ w3 hs HTW.out hr3)
    clear hr3 hf3 HWD HQ2 HF2
    go_wp2_with fail
    refine HN3.out.mono ?_
    rintro e w4 ⟨rfl, hr4, hf4⟩
    have HQ4 := Lib.hid (HQ3.out.fr hf4 (by omega))
    have HF4 := Lib.hid (HF3.out.trans hf4)
    have HR4 := Lib.hid hr4
    clear hr4 hf4 HN3 HQ3 HF3
    generalize numF s.data.toList (wordF s.data.toList [46, 46] T) = q at *
    obtain ⟨m, U⟩ := q
    simp only at HE HR4 ⊢
    have d0 := HQ4.out.cell (i := 0) rfl
    have d1 := HQ4.out.cell (i := 1) rfl
    have z0 := HQ4.out.thaw 0
    have z1 := HQ4.out.thaw 1
    go_wp2
    have Q3 := HQ4.out.put2 (.int .i64 n) (.int .i64 m)
    have B3 := But.put2 w.heap.size w4 (.int .i64 n) (.int .i64 m)
    generalize ((w4.setCell ⟨w.heap.size, 0, none⟩ (.int .i64 n)).setCell ⟨w.heap.size, 1, none⟩ (.int .i64 m)) = w5 at Q3 B3 ⊢
    have e0 := Q3.cell (i := 0) rfl
    have e1 := Q3.cell (i := 1) rfl
    exact bodyPost_ret (v := .agg #[.int .i64 n, .int .i64 m]) (by simp [results, Tryz.results121, go_sem, e0, e1]) rfl ⟨by rw [HE.out], by rw [HE.out]; exact HR4.out.but B3 (by omega), B3.fr HF4.out (Nat.le_refl _)⟩
end Go.Proofs.YtlmaafmhadbiaaaGreatDoor.Pu
