/- The reader: a part, cases, parts. -/
import Derived.Test.YtapnieogfddjkaaDoorRd7
namespace Go.Proofs.YtapnieogfddjkaaDoor
open Go.RowKit

theorem Sl.form {α : Type} {k : Nat} {C : α → List Value → Prop} {w : World} {S : Nat → Prop} {v : Value} {xs : List α} (h : Sl k C w S v xs) : ∃ a n cap, v = .slice a n cap ∧ n = xs.length := by
  obtain ⟨a, cap, hv, -⟩ := h
  exact ⟨a, _, cap, hv, rfl⟩
theorem part_hole {l : List UInt8} {cf : Bool → List UInt8 × St → List Cs × St} {h : Bool} {S : St} (h1 : nextF l [123] S = true) : partG l cf h S = holeG l cf h S := by unfold partG; rw [if_pos h1]
theorem part_hash {l : List UInt8} {cf : Bool → List UInt8 × St → List Cs × St} {h : Bool} {S : St} (h1 : nextF l [123] S = false) (h2 : nextF l [35] S = true) : partG l cf h S = (.mk 3 (ba []) (ba []) [], wordF l [35] (if h then S else failF l S)) := by
  unfold partG; rw [if_neg (by rw [h1]; simp), if_pos h2]
theorem part_text {l : List UInt8} {cf : Bool → List UInt8 × St → List Cs × St} {h : Bool} {S : St} (h1 : nextF l [123] S = false) (h2 : nextF l [35] S = false) : partG l cf h S = (.mk 1 (ba (textL l l.length [] S).1) (ba []) [], (textL l l.length [] S).2) := by
  unfold partG; rw [if_neg (by rw [h1]; simp), if_neg (by rw [h2]; simp)]

set_option maxHeartbeats 3200000 in
set_option maxRecDepth 100000 in
theorem part_any (f : Nat) (HC : CasesOK f) (h : Bool) (o rb : Nat) (s : BA) (S : St) (w : World) (hs : s.size ≤ 2000) (ho : o + f ≤ 4000) (hS : Wf s.data.toList S) (hf : s.size - S.1 < f + 1) (hR : RdAt w rb s o S) (hE : Env w rb) :
    Calls Tryd.prog 24 #[.pointer (some ⟨rb, 0, none⟩), .bool h] w (PartPost rb s o w (partG s.data.toList (fun h b => casesL s.data.toList f h o [] b) h S)) := by
  have hlr := hR.lt
  have HQ1 : Hid (Row (w.alloc (.cells #[.int .i64 0, .string ⟨#[]⟩, .string ⟨#[]⟩, .slice none 0 0] 42)) w.heap.size 42 [.int .i64 0, .string ⟨#[]⟩, .string ⟨#[]⟩, .slice none 0 0]) := Lib.hid (row_new w #[.int .i64 0, .string ⟨#[]⟩, .string ⟨#[]⟩, .slice none 0 0] 42)
  have HR1 : Hid (RdAt (w.alloc (.cells #[.int .i64 0, .string ⟨#[]⟩, .string ⟨#[]⟩, .slice none 0 0] 42)) rb s o S) := Lib.hid (hR.alloc _)
  have HE1 : Hid (Env (w.alloc (.cells #[.int .i64 0, .string ⟨#[]⟩, .string ⟨#[]⟩, .slice none 0 0] 42)) rb) := Lib.hid (hE.below (below1 _ _))
  have HF1 : Hid (Fr (· = rb) w (w.alloc (.cells #[.int .i64 0, .string ⟨#[]⟩, .string ⟨#[]⟩, .slice none 0 0] 42))) := Lib.hid ((Fr.refl _ _).alloc _)
  have HS := Lib.hid hS
  have HFF := Lib.hid hf
  have HN1 : Hid (Calls Tryd.prog 23 #[.pointer (some ⟨rb, 0, none⟩), .string ⟨#[123]⟩] (w.alloc (.cells #[.int .i64 0, .string ⟨#[]⟩, .string ⟨#[]⟩, .slice none 0 0] 42)) fun e w' => e = .returned (.bool (nextF s.data.toList [123] S)) ∧ Same (w.alloc (.cells #[.int .i64 0, .string ⟨#[]⟩, .string ⟨#[]⟩, .slice none 0 0] 42)) w') := Lib.hid (next_any rb s ⟨#[123]⟩ o S _ hs hS (by decide) HR1.out)
  clear hR hE hS hf
  cases hb1 : nextF s.data.toList [123] S with
  | true =>
    rw [hb1] at HN1
    have HK := Lib.hid (part_hole (cf := fun h b => casesL s.data.toList f h o [] b) (h := h) hb1)
    have HNX := Lib.hid hb1
    clear hb1
    go_enter Tryd.func24, Tryd.ntmps24
    go_wp2_with fail
    generalize w.alloc (.cells #[.int .i64 0, .string ⟨#[]⟩, .string ⟨#[]⟩, .slice none 0 0] 42) = w1 at *
    refine HN1.out.mono ?_
    rintro e w2 ⟨rfl, hw2⟩
    have HQ2 := Lib.hid (hw2.row HQ1.out)
    have HF2 := Lib.hid (HF1.out.trans (Fr.of_same hw2))
    have HH := Lib.hid (hole_any f HC h o rb s S w2 hs ho HS.out HNX.out HFF.out (HR1.out.same hw2) (HE1.out.same hw2))
    clear hw2 HN1 HQ1 HR1 HE1 HF1 HNX
    generalize holeG s.data.toList (fun h b => casesL s.data.toList f h o [] b) h S = r at *
    obtain ⟨⟨k, t, nm, cs⟩, V⟩ := r
    go_wp2_with fail
    refine HH.out.mono ?_
    rintro e w3 ⟨v, n, he, hsl, hr3, hf3⟩
    simp only [Pt.k, Pt.t, Pt.n, Pt.cs] at he hsl hr3
    obtain ⟨a, ln, cap, rfl, -⟩ := hsl.form
    subst he
    have HR3 := Lib.hid hr3
    have HSL := Lib.hid hsl
    have HQ3 := Lib.hid (HQ2.out.fr hf3 (by omega))
    have HF3 := Lib.hid (HF2.out.trans hf3)
    have HZ : Hid (w.heap.size < w2.heap.size) := Lib.hid HQ2.out.lt
    clear hr3 hsl hf3 HH HQ2 HF2
    have q0 := HQ3.out.cell (i := 0) rfl
    have q1 := HQ3.out.cell (i := 1) rfl
    have q2 := HQ3.out.cell (i := 2) rfl
    have q3 := HQ3.out.cell (i := 3) rfl
    have y0 := HQ3.out.thaw 0
    have y1 := HQ3.out.thaw 1
    have y2 := HQ3.out.thaw 2
    have y3 := HQ3.out.thaw 3
    go_wp2
    have Q7 := HQ3.out.put4 (.int .i64 k) (.string t) (.string nm) (.slice a ln cap)
    have B7 := But.put4 w.heap.size w3 (.int .i64 k) (.string t) (.string nm) (.slice a ln cap)
    generalize (((w3.setCell ⟨w.heap.size, 0, none⟩ (.int .i64 k)).setCell ⟨w.heap.size, 1, none⟩ (.string t)).setCell ⟨w.heap.size, 2, none⟩ (.string nm)).setCell ⟨w.heap.size, 3, none⟩ (.slice a ln cap) = w4 at *
    have e0 := Q7.cell (i := 0) rfl
    have e1 := Q7.cell (i := 1) rfl
    have e2 := Q7.cell (i := 2) rfl
    have e3 := Q7.cell (i := 3) rfl
    have hz := HZ.out
    exact bodyPost_ret (v := .agg #[.int .i64 k, .string t, .string nm, .slice a ln cap]) (by simp [results, Tryd.results24, go_sem, e0, e1, e2, e3]) rfl (by
      rw [HK.out]
      exact ⟨_, n, rfl, HSL.out.fsh (fun b hb _ => B7.block b (by omega)) (by omega) (by rw [B7.size]; exact Nat.le_refl _), HR3.out.but B7 (by omega), But.fr HF3.out B7 (Nat.le_refl _)⟩)
  | false =>
    rw [hb1] at HN1
    cases hb2 : nextF s.data.toList [35] S with
    | true =>
      have HK := Lib.hid (part_hash (cf := fun h b => casesL s.data.toList f h o [] b) (h := h) hb1 hb2)
      have HN2 : Hid (∀ W, RdAt W rb s o S → Calls Tryd.prog 23 #[.pointer (some ⟨rb, 0, none⟩), .string ⟨#[35]⟩] W fun e w' => e = .returned (.bool true) ∧ Same W w') := Lib.hid (fun W hW => by rw [← hb2]; exact next_any rb s ⟨#[35]⟩ o S W hs HS.out (by decide) hW)
      clear hb1 hb2
      cases h with
      | true =>
        go_enter Tryd.func24, Tryd.ntmps24
        go_wp2_with fail
        generalize w.alloc (.cells #[.int .i64 0, .string ⟨#[]⟩, .string ⟨#[]⟩, .slice none 0 0] 42) = w1 at *
        refine HN1.out.mono ?_
        rintro e w2 ⟨rfl, hw2⟩
        have HQ2 := Lib.hid (hw2.row HQ1.out)
        have HF2 := Lib.hid (HF1.out.trans (Fr.of_same hw2))
        have HR2 := Lib.hid (HR1.out.same hw2)
        have HN3 := Lib.hid (HN2.out w2 HR2.out)
        clear hw2 HN1 HQ1 HR1 HE1 HF1 HN2
        go_wp2_with fail
        refine HN3.out.mono ?_
        rintro e w3 ⟨rfl, hw3⟩
        have HQ3 := Lib.hid (hw3.row HQ2.out)
        have HF3 := Lib.hid (HF2.out.trans (Fr.of_same hw3))
        have HR3 := Lib.hid (HR2.out.same hw3)
        clear hw3 HN3 HQ2 HR2 HF2
        have HWD : Hid (Calls Tryd.prog 39 #[.pointer (some ⟨rb, 0, none⟩), .string ⟨#[35]⟩] w3 fun e w' => e = .returned (.tuple #[]) ∧ RdAt w' rb s o (wordF s.data.toList [35] S) ∧ Fr (· = rb) w3 w') := Lib.hid (word_any rb s ⟨#[35]⟩ o S w3 hs (by decide) HS.out HR3.out)
        go_wp2_with fail
        refine HWD.out.mono ?_
        rintro e w4 ⟨rfl, hr4, hf4⟩
        have HR4 := Lib.hid hr4
        have HQ4 := Lib.hid (HQ3.out.fr hf4 (by omega))
        have HF4 := Lib.hid (HF3.out.trans hf4)
        clear hr4 hf4 HWD HQ3 HF3 HR3
        have q0 := HQ4.out.cell (i := 0) rfl
        have q1 := HQ4.out.cell (i := 1) rfl
        have q2 := HQ4.out.cell (i := 2) rfl
        have q3 := HQ4.out.cell (i := 3) rfl
        have y0 := HQ4.out.thaw 0
        have y1 := HQ4.out.thaw 1
        have y2 := HQ4.out.thaw 2
        have y3 := HQ4.out.thaw 3
        go_wp2
        have Q7 := HQ4.out.put4 (.int .i64 3) (.string ⟨#[]⟩) (.string ⟨#[]⟩) (.slice none 0 0)
        have B7 := But.put4 w.heap.size w4 (.int .i64 3) (.string ⟨#[]⟩) (.string ⟨#[]⟩) (.slice none 0 0)
        generalize (((w4.setCell ⟨w.heap.size, 0, none⟩ (.int .i64 3)).setCell ⟨w.heap.size, 1, none⟩ (.string ⟨#[]⟩)).setCell ⟨w.heap.size, 2, none⟩ (.string ⟨#[]⟩)).setCell ⟨w.heap.size, 3, none⟩ (.slice none 0 0) = w5 at *
        have e0 := Q7.cell (i := 0) rfl
        have e1 := Q7.cell (i := 1) rfl
        have e2 := Q7.cell (i := 2) rfl
        have e3 := Q7.cell (i := 3) rfl
        skip
        exact bodyPost_ret (v := .agg #[.int .i64 3, .string ⟨#[]⟩, .string ⟨#[]⟩, .slice none 0 0]) (by simp [results, Tryd.results24, go_sem, e0, e1, e2, e3]) rfl (by
          rw [HK.out]
          exact ⟨_, 0, rfl, Sl.nil _ _ _ _, HR4.out.but B7 (by omega), But.fr HF4.out B7 (Nat.le_refl _)⟩)
      | false =>
        go_enter Tryd.func24, Tryd.ntmps24
        go_wp2_with fail
        generalize w.alloc (.cells #[.int .i64 0, .string ⟨#[]⟩, .string ⟨#[]⟩, .slice none 0 0] 42) = w1 at *
        refine HN1.out.mono ?_
        rintro e w2 ⟨rfl, hw2⟩
        have HQ2 := Lib.hid (hw2.row HQ1.out)
        have HF2 := Lib.hid (HF1.out.trans (Fr.of_same hw2))
        have HR2 := Lib.hid (HR1.out.same hw2)
        have HN3 := Lib.hid (HN2.out w2 HR2.out)
        clear hw2 HN1 HQ1 HR1 HE1 HF1 HN2
        go_wp2_with fail
        refine HN3.out.mono ?_
        rintro e w3 ⟨rfl, hw3⟩
        have HQ3 := Lib.hid (hw3.row HQ2.out)
        have HF3 := Lib.hid (HF2.out.trans (Fr.of_same hw3))
        have HR3 := Lib.hid (HR2.out.same hw3)
        clear hw3 HN3 HQ2 HR2 HF2
        have HFL := Lib.hid (fail_any rb s o S w3 hs HS.out HR3.out)
        clear HR3
        go_wp2_with fail
        refine HFL.out.mono ?_
        rintro e w3b ⟨rfl, hr3, hf3⟩
        have HR3 := Lib.hid hr3
        have HQ3 := Lib.hid (HQ3.out.fr hf3 (by omega))
        have HF3 := Lib.hid (HF3.out.trans hf3)
        have HS := Lib.hid (ge_wf (ge_fail s.data.toList S) HS.out)
        clear hr3 hf3 HFL
        have HWD : Hid (Calls Tryd.prog 39 #[.pointer (some ⟨rb, 0, none⟩), .string ⟨#[35]⟩] w3b fun e w' => e = .returned (.tuple #[]) ∧ RdAt w' rb s o (wordF s.data.toList [35] (failF s.data.toList S)) ∧ Fr (· = rb) w3b w') := Lib.hid (word_any rb s ⟨#[35]⟩ o (failF s.data.toList S) w3b hs (by decide) HS.out HR3.out)
        go_wp2_with fail
        refine HWD.out.mono ?_
        rintro e w4 ⟨rfl, hr4, hf4⟩
        have HR4 := Lib.hid hr4
        have HQ4 := Lib.hid (HQ3.out.fr hf4 (by omega))
        have HF4 := Lib.hid (HF3.out.trans hf4)
        clear hr4 hf4 HWD HQ3 HF3 HR3
        have q0 := HQ4.out.cell (i := 0) rfl
        have q1 := HQ4.out.cell (i := 1) rfl
        have q2 := HQ4.out.cell (i := 2) rfl
        have q3 := HQ4.out.cell (i := 3) rfl
        have y0 := HQ4.out.thaw 0
        have y1 := HQ4.out.thaw 1
        have y2 := HQ4.out.thaw 2
        have y3 := HQ4.out.thaw 3
        go_wp2
        have Q7 := HQ4.out.put4 (.int .i64 3) (.string ⟨#[]⟩) (.string ⟨#[]⟩) (.slice none 0 0)
        have B7 := But.put4 w.heap.size w4 (.int .i64 3) (.string ⟨#[]⟩) (.string ⟨#[]⟩) (.slice none 0 0)
        generalize (((w4.setCell ⟨w.heap.size, 0, none⟩ (.int .i64 3)).setCell ⟨w.heap.size, 1, none⟩ (.string ⟨#[]⟩)).setCell ⟨w.heap.size, 2, none⟩ (.string ⟨#[]⟩)).setCell ⟨w.heap.size, 3, none⟩ (.slice none 0 0) = w5 at *
        have e0 := Q7.cell (i := 0) rfl
        have e1 := Q7.cell (i := 1) rfl
        have e2 := Q7.cell (i := 2) rfl
        have e3 := Q7.cell (i := 3) rfl
        skip
        exact bodyPost_ret (v := .agg #[.int .i64 3, .string ⟨#[]⟩, .string ⟨#[]⟩, .slice none 0 0]) (by simp [results, Tryd.results24, go_sem, e0, e1, e2, e3]) rfl (by
          rw [HK.out]
          exact ⟨_, 0, rfl, Sl.nil _ _ _ _, HR4.out.but B7 (by omega), But.fr HF4.out B7 (Nat.le_refl _)⟩)
    | false =>
      have HK := Lib.hid (part_text (cf := fun h b => casesL s.data.toList f h o [] b) (h := h) hb1 hb2)
      have HN2 : Hid (∀ W, RdAt W rb s o S → Calls Tryd.prog 23 #[.pointer (some ⟨rb, 0, none⟩), .string ⟨#[35]⟩] W fun e w' => e = .returned (.bool false) ∧ Same W w') := Lib.hid (fun W hW => by rw [← hb2]; exact next_any rb s ⟨#[35]⟩ o S W hs HS.out (by decide) hW)
      clear hb1 hb2
      go_enter Tryd.func24, Tryd.ntmps24
      go_wp2_with fail
      generalize w.alloc (.cells #[.int .i64 0, .string ⟨#[]⟩, .string ⟨#[]⟩, .slice none 0 0] 42) = w1 at *
      refine HN1.out.mono ?_
      rintro e w2 ⟨rfl, hw2⟩
      have HQ2 := Lib.hid (hw2.row HQ1.out)
      have HF2 := Lib.hid (HF1.out.trans (Fr.of_same hw2))
      have HR2 := Lib.hid (HR1.out.same hw2)
      have HN3 := Lib.hid (HN2.out w2 HR2.out)
      clear hw2 HN1 HQ1 HR1 HE1 HF1 HN2
      go_wp2_with fail
      refine HN3.out.mono ?_
      rintro e w3 ⟨rfl, hw3⟩
      have HQ3 := Lib.hid (hw3.row HQ2.out)
      have HF3 := Lib.hid (HF2.out.trans (Fr.of_same hw3))
      have HR3 := Lib.hid (HR2.out.same hw3)
      clear hw3 HN3 HQ2 HR2 HF2
      have HTX := Lib.hid (text_any rb s o S w3 hs HS.out HR3.out)
      clear HR3
      generalize textL s.data.toList s.data.toList.length [] S = r at *
      obtain ⟨tx, V⟩ := r
      go_wp2_with fail
      refine HTX.out.mono ?_
      rintro e w4 ⟨rfl, hr4, hf4⟩
      have HR4 := Lib.hid hr4
      have HQ4 := Lib.hid (HQ3.out.fr hf4 (by omega))
      have HF4 := Lib.hid (HF3.out.trans hf4)
      clear hr4 hf4 HTX HQ3 HF3
      have q0 := HQ4.out.cell (i := 0) rfl
      have q1 := HQ4.out.cell (i := 1) rfl
      have q2 := HQ4.out.cell (i := 2) rfl
      have q3 := HQ4.out.cell (i := 3) rfl
      have y0 := HQ4.out.thaw 0
      have y1 := HQ4.out.thaw 1
      have y2 := HQ4.out.thaw 2
      have y3 := HQ4.out.thaw 3
      go_wp2
      have Q7 := HQ4.out.put4 (.int .i64 1) (.string (ba tx)) (.string ⟨#[]⟩) (.slice none 0 0)
      have B7 := But.put4 w.heap.size w4 (.int .i64 1) (.string (ba tx)) (.string ⟨#[]⟩) (.slice none 0 0)
      generalize (((w4.setCell ⟨w.heap.size, 0, none⟩ (.int .i64 1)).setCell ⟨w.heap.size, 1, none⟩ (.string (ba tx))).setCell ⟨w.heap.size, 2, none⟩ (.string ⟨#[]⟩)).setCell ⟨w.heap.size, 3, none⟩ (.slice none 0 0) = w5 at *
      have e0 := Q7.cell (i := 0) rfl
      have e1 := Q7.cell (i := 1) rfl
      have e2 := Q7.cell (i := 2) rfl
      have e3 := Q7.cell (i := 3) rfl
      skip
      exact bodyPost_ret (v := .agg #[.int .i64 1, .string (ba tx), .string ⟨#[]⟩, .slice none 0 0]) (by simp [results, Tryd.results24, go_sem, e0, e1, e2, e3]) rfl (by
        rw [HK.out]
        exact ⟨_, 0, rfl, Sl.nil _ _ _ _, HR4.out.but B7 (by omega), But.fr HF4.out B7 (Nat.le_refl _)⟩)
end Go.Proofs.YtapnieogfddjkaaDoor
