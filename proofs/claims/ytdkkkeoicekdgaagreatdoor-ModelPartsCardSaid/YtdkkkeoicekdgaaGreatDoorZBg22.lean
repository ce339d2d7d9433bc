/- The reader: a part, cases, parts. -/
import Derived.Test.YtdkkkeoicekdgaaGreatDoorZBg13
import Derived.Test.YtdkkkeoicekdgaaGreatDoorZBRh

section

namespace Go.Proofs.YtdkkkeoicekdgaaGreatDoor
set_option maxHeartbeats 3200000
set_option maxRecDepth 100000
open Go.Lib (hid)
open Go.RowKit
theorem Sl.form {α : Type} {k : Nat} {C : α -> List Value -> Prop} {w : World} {S : Nat -> Prop} {v : Value} {xs : List α} (h : Sl k C w S v xs) : ∃ a n cap, v = .slice a n cap /\ n = xs.length := by
 obtain ⟨a, cap, hv, -⟩ := h
 exact ⟨a, _, cap, hv, rfl⟩
theorem zby {l : List UInt8} {cf : Bool -> List UInt8 × St -> List Cs × St} {h : Bool} {S : St} (h1 : nextF l [123] S = true) : partG l cf h S = holeG l cf h S := by unfold partG; rw [if_pos h1]
theorem zbz {l : List UInt8} {cf : Bool -> List UInt8 × St -> List Cs × St} {h : Bool} {S : St} (h1 : nextF l [123] S = false) (h2 : nextF l [35] S = true) : partG l cf h S = (.mk 3 (ba []) (ba []) [], wordF l [35] (if h then S else failF l S)) := by
 unfold partG; rw [if_neg (by rw [h1]; simp), if_pos h2]
theorem zbx {l : List UInt8} {cf : Bool -> List UInt8 × St -> List Cs × St} {h : Bool} {S : St} (h1 : nextF l [123] S = false) (h2 : nextF l [35] S = false) : partG l cf h S = (.mk 1 (ba (textL l l.length [] S).1) (ba []) [], (textL l l.length [] S).2) := by
 unfold partG; rw [if_neg (by rw [h1]; simp), if_neg (by rw [h2]; simp)]
theorem z3g (f : Nat) (HC : z5a f) (h : Bool) (o rb : Nat) (s : BA) (S : St) (w : World) (hs : s.size <= 2000) (ho : o + f <= 4000) (hS : Wf s.data.toList S) (hf : s.size - S.1 < f + 1) (hR : RdAt w rb s o S) (hE : Env w rb) :
  Calls Tryz.prog 220 #[.pointer (some ⟨rb, 0, none⟩), .bool h] w (z6n rb s o w (partG s.data.toList (fun h b => z0b s.data.toList f h o [] b) h S)) := by
 have hlr := hR.lt
 have HQ1 : Hid (Row (w.alloc (.cells #[.int .i64 0, .string ⟨#[]⟩, .string ⟨#[]⟩, .slice none 0 0] 263)) w.heap.size 263 [.int .i64 0, .string ⟨#[]⟩, .string ⟨#[]⟩, .slice none 0 0]) := hid (z01 w #[.int .i64 0, .string ⟨#[]⟩, .string ⟨#[]⟩, .slice none 0 0] 263)
 have HR1 : Hid (RdAt (w.alloc (.cells #[.int .i64 0, .string ⟨#[]⟩, .string ⟨#[]⟩, .slice none 0 0] 263)) rb s o S) := hid (hR.alloc _)
 have HE1 : Hid (Env (w.alloc (.cells #[.int .i64 0, .string ⟨#[]⟩, .string ⟨#[]⟩, .slice none 0 0] 263)) rb) := hid (hE.below (z04 _ _))
 have HF1 : Hid (Fr (· = rb) w (w.alloc (.cells #[.int .i64 0, .string ⟨#[]⟩, .string ⟨#[]⟩, .slice none 0 0] 263))) := hid ((Fr.refl _ _).alloc _)
 have HS := hid hS
 have HFF := hid hf
 have HN1 : Hid (Calls Tryz.prog 219 #[.pointer (some ⟨rb, 0, none⟩), .string ⟨#[123]⟩] (w.alloc (.cells #[.int .i64 0, .string ⟨#[]⟩, .string ⟨#[]⟩, .slice none 0 0] 263)) fun e w' => e = .returned (.bool (nextF s.data.toList [123] S)) /\ Same (w.alloc (.cells #[.int .i64 0, .string ⟨#[]⟩, .string ⟨#[]⟩, .slice none 0 0] 263)) w') := hid (z1i rb s ⟨#[123]⟩ o S _ hs hS (by decide) HR1.out)
 clear hR hE hS hf
 cases hb1 : nextF s.data.toList [123] S with
 | true =>
  rw [hb1] at HN1
  have HK := hid (zby (cf := fun h b => z0b s.data.toList f h o [] b) (h := h) hb1)
  have HNX := hid hb1
  clear hb1
  go_enter Tryz.func220, Tryz.ntmps220
  go_wp2_with fail
  generalize w.alloc (.cells #[.int .i64 0, .string ⟨#[]⟩, .string ⟨#[]⟩, .slice none 0 0] 263) = w1 at *
  refine HN1.out.mono ?_
  rintro e w2 ⟨rfl, hw2⟩
  have HQ2 := hid (hw2.row HQ1.out)
  have HF2 := hid (HF1.out.trans (Fr.of_same hw2))
  have HH := hid (hole_any f HC h o rb s S w2 hs ho HS.out HNX.out HFF.out (HR1.out.same hw2) (HE1.out.same hw2))
  clear hw2 HN1 HQ1 HR1 HE1 HF1 HNX
  generalize holeG s.data.toList (fun h b => z0b s.data.toList f h o [] b) h S = r at *
  obtain ⟨⟨k, t, nm, cs⟩, V⟩ := r
  go_wp2_with fail
  refine HH.out.mono ?_
  rintro e w3 ⟨v, n, he, hsl, hr3, hf3⟩
  simp only [Pt.k, Pt.t, Pt.n, Pt.cs] at he hsl hr3
  obtain ⟨a, ln, cap, rfl, -⟩ := hsl.form
  subst he
  have HR3 := hid hr3
  have HSL := hid hsl
  have HQ3 := hid (HQ2.out.fr hf3 (by omega))
  have HF3 := hid (HF2.out.trans hf3)
  have HZ : Hid (w.heap.size < w2.heap.size) := hid HQ2.out.lt
  clear hr3 hsl hf3 HH HQ2 HF2
  have q0 := HQ3.out.cell (i := 0) rfl
  have q1 := HQ3.out.cell (i := 1) rfl
  have q2 := HQ3.out.cell (i := 2) rfl
  have q3 := HQ3.out.cell (i := 3) rfl
  have y0 := HQ3.out.thaw 0
  have y1 := HQ3.out.thaw 1
  have y2 := HQ3.out.thaw 2
  have y3 := HQ3.out.thaw 3
  go_wp2
  have Q7 := HQ3.out.put4 (.int .i64 k) (.string t) (.string nm) (.slice a ln cap)
  have B7 := But.put4 w.heap.size w3 (.int .i64 k) (.string t) (.string nm) (.slice a ln cap)
  generalize (((w3.setCell ⟨w.heap.size, 0, none⟩ (.int .i64 k)).setCell ⟨w.heap.size, 1, none⟩ (.string t)).setCell ⟨w.heap.size, 2, none⟩ (.string nm)).setCell ⟨w.heap.size, 3, none⟩ (.slice a ln cap) = w4 at *
  have e0 := Q7.cell (i := 0) rfl
  have e1 := Q7.cell (i := 1) rfl
  have e2 := Q7.cell (i := 2) rfl
  have e3 := Q7.cell (i := 3) rfl
  have hz := HZ.out
  exact bodyPost_ret (v := .agg #[.int .i64 k, .string t, .string nm, .slice a ln cap]) (by simp [results, Tryz.results220, go_sem, e0, e1, e2, e3]) rfl (by
   rw [HK.out]
   exact ⟨_, n, rfl, HSL.out.fsh (fun b hb _ => B7.block b (by omega)) (by omega) (by rw [B7.size]; exact Nat.le_refl _), HR3.out.but B7 (by omega), But.fr HF3.out B7 (Nat.le_refl _)⟩)
 | false =>
  rw [hb1] at HN1
  cases hb2 : nextF s.data.toList [35] S with
  | true =>
   have HK := hid (zbz (cf := fun h b => z0b s.data.toList f h o [] b) (h := h) hb1 hb2)
   have HN2 : Hid (∀ W, RdAt W rb s o S -> Calls Tryz.prog 219 #[.pointer (some ⟨rb, 0, none⟩), .string ⟨#[35]⟩] W fun e w' => e = .returned (.bool true) /\ Same W w') := hid (fun W hW => by rw [<- hb2]; exact z1i rb s ⟨#[35]⟩ o S W hs HS.out (by decide) hW)
   clear hb1 hb2
   cases h with
   | true =>
    go_enter Tryz.func220, Tryz.ntmps220
    go_wp2_with fail
    generalize w.alloc (.cells #[.int .i64 0, .string ⟨#[]⟩, .string ⟨#[]⟩, .slice none 0 0] 263) = w1 at *
    refine HN1.out.mono ?_
    rintro e w2 ⟨rfl, hw2⟩
    have HQ2 := hid (hw2.row HQ1.out)
    have HF2 := hid (HF1.out.trans (Fr.of_same hw2))
    have HR2 := hid (HR1.out.same hw2)
    have HN3 := hid (HN2.out w2 HR2.out)
    clear hw2 HN1 HQ1 HR1 HE1 HF1 HN2
    go_wp2_with fail
    refine HN3.out.mono ?_
    rintro e w3 ⟨rfl, hw3⟩
    have HQ3 := hid (hw3.row HQ2.out)
    have HF3 := hid (HF2.out.trans (Fr.of_same hw3))
    have HR3 := hid (HR2.out.same hw3)
    clear hw3 HN3 HQ2 HR2 HF2
    have HWD : Hid (Calls Tryz.prog 247 #[.pointer (some ⟨rb, 0, none⟩), .string ⟨#[35]⟩] w3 fun e w' => e = .returned (.tuple #[]) /\ RdAt w' rb s o (wordF s.data.toList [35] S) /\ Fr (· = rb) w3 w') := hid (z0o rb s ⟨#[35]⟩ o S w3 hs (by decide) HS.out HR3.out)
    go_wp2_with fail
    refine HWD.out.mono ?_
    rintro e w4 ⟨rfl, hr4, hf4⟩
    have HR4 := hid hr4
    have HQ4 := hid (HQ3.out.fr hf4 (by omega))
    have HF4 := hid (HF3.out.trans hf4)
    clear hr4 hf4 HWD HQ3 HF3 HR3
    have q0 := HQ4.out.cell (i := 0) rfl
    have q1 := HQ4.out.cell (i := 1) rfl
    have q2 := HQ4.out.cell (i := 2) rfl
    have q3 := HQ4.out.cell (i := 3) rfl
    have y0 := HQ4.out.thaw 0
    have y1 := HQ4.out.thaw 1
    have y2 := HQ4.out.thaw 2
    have y3 := HQ4.out.thaw 3
    go_wp2
    have Q7 := HQ4.out.put4 (.int .i64 3) (.string ⟨#[]⟩) (.string ⟨#[]⟩) (.slice none 0 0)
    have B7 := But.put4 w.heap.size w4 (.int .i64 3) (.string ⟨#[]⟩) (.string ⟨#[]⟩) (.slice none 0 0)
    generalize (((w4.setCell ⟨w.heap.size, 0, none⟩ (.int .i64 3)).setCell ⟨w.heap.size, 1, none⟩ (.string ⟨#[]⟩)).setCell ⟨w.heap.size, 2, none⟩ (.string ⟨#[]⟩)).setCell ⟨w.heap.size, 3, none⟩ (.slice none 0 0) = w5 at *
    have e0 := Q7.cell (i := 0) rfl
    have e1 := Q7.cell (i := 1) rfl
    have e2 := Q7.cell (i := 2) rfl
    have e3 := Q7.cell (i := 3) rfl
    skip
    exact bodyPost_ret (v := .agg #[.int .i64 3, .string ⟨#[]⟩, .string ⟨#[]⟩, .slice none 0 0]) (by simp [results, Tryz.results220, go_sem, e0, e1, e2, e3]) rfl (by
     rw [HK.out]
     exact ⟨_, 0, rfl, Sl.nil _ _ _ _, HR4.out.but B7 (by omega), But.fr HF4.out B7 (Nat.le_refl _)⟩)
   | false =>
    go_enter Tryz.func220, Tryz.ntmps220
    go_wp2_with fail
    generalize w.alloc (.cells #[.int .i64 0, .string ⟨#[]⟩, .string ⟨#[]⟩, .slice none 0 0] 263) = w1 at *
    refine HN1.out.mono ?_
    rintro e w2 ⟨rfl, hw2⟩
    have HQ2 := hid (hw2.row HQ1.out)
    have HF2 := hid (HF1.out.trans (Fr.of_same hw2))
    have HR2 := hid (HR1.out.same hw2)
    have HN3 := hid (HN2.out w2 HR2.out)
    clear hw2 HN1 HQ1 HR1 HE1 HF1 HN2
    go_wp2_with fail
    refine HN3.out.mono ?_
    rintro e w3 ⟨rfl, hw3⟩
    have HQ3 := hid (hw3.row HQ2.out)
    have HF3 := hid (HF2.out.trans (Fr.of_same hw3))
    have HR3 := hid (HR2.out.same hw3)
    clear hw3 HN3 HQ2 HR2 HF2
    have HFL := hid (z3l rb s o S w3 hs HS.out HR3.out)
    clear HR3
    go_wp2_with fail
    refine HFL.out.mono ?_
    rintro e w3b ⟨rfl, hr3, hf3⟩
    have HR3 := hid hr3
    have HQ3 := hid (HQ3.out.fr hf3 (by omega))
    have HF3 := hid (HF3.out.trans hf3)
    have HS := hid (z1n (z50 s.data.toList S) HS.out)
    clear hr3 hf3 HFL
    have HWD : Hid (Calls Tryz.prog 247 #[.pointer (some ⟨rb, 0, none⟩), .string ⟨#[35]⟩] w3b fun e w' => e = .returned (.tuple #[]) /\ RdAt w' rb s o (wordF s.data.toList [35] (failF s.data.toList S)) /\ Fr (· = rb) w3b w') := hid (z0o rb s ⟨#[35]⟩ o (failF s.data.toList S) w3b hs (by decide) HS.out HR3.out)
    go_wp2_with fail
    refine HWD.out.mono ?_
    rintro e w4 ⟨rfl, hr4, hf4⟩
    have HR4 := hid hr4
    have HQ4 := hid (HQ3.out.fr hf4 (by omega))
    have HF4 := hid (HF3.out.trans hf4)
    clear hr4 hf4 HWD HQ3 HF3 HR3
    have q0 := HQ4.out.cell (i := 0) rfl
    have q1 := HQ4.out.cell (i := 1) rfl
    have q2 := HQ4.out.cell (i := 2) rfl
    have q3 := HQ4.out.cell (i := 3) rfl
    have y0 := HQ4.out.thaw 0
    have y1 := HQ4.out.thaw 1
    have y2 := HQ4.out.thaw 2
    have y3 := HQ4.out.thaw 3
    go_wp2
    have Q7 := HQ4.out.put4 (.int .i64 3) (.string ⟨#[]⟩) (.string ⟨#[]⟩) (.slice none 0 0)
    have B7 := But.put4 w.heap.size w4 (.int .i64 3) (.string ⟨#[]⟩) (.string ⟨#[]⟩) (.slice none 0 0)
    generalize (((w4.setCell ⟨w.heap.size, 0, none⟩ (.int .i64 3)).setCell ⟨w.heap.size, 1, none⟩ (.string ⟨#[]⟩)).setCell ⟨w.heap.size, 2, none⟩ (.string ⟨#[]⟩)).setCell ⟨w.heap.size, 3, none⟩ (.slice none 0 0) = w5 at *
    have e0 := Q7.cell (i := 0) rfl
    have e1 := Q7.cell (i := 1) rfl
    have e2 := Q7.cell (i := 2) rfl
    have e3 := Q7.cell (i := 3) rfl
    skip
    exact bodyPost_ret (v := .agg #[.int .i64 3, .string ⟨#[]⟩, .string ⟨#[]⟩, .slice none 0 0]) (by simp [results, Tryz.results220, go_sem, e0, e1, e2, e3]) rfl (by
     rw [HK.out]
     exact ⟨_, 0, rfl, Sl.nil _ _ _ _, HR4.out.but B7 (by omega), But.fr HF4.out B7 (Nat.le_refl _)⟩)
  | false =>
   have HK := hid (zbx (cf := fun h b => z0b s.data.toList f h o [] b) (h := h) hb1 hb2)
   have HN2 : Hid (∀ W, RdAt W rb s o S -> Calls Tryz.prog 219 #[.pointer (some ⟨rb, 0, none⟩), .string ⟨#[35]⟩] W fun e w' => e = .returned (.bool false) /\ Same W w') := hid (fun W hW => by rw [<- hb2]; exact z1i rb s ⟨#[35]⟩ o S W hs HS.out (by decide) hW)
   clear hb1 hb2
   go_enter Tryz.func220, Tryz.ntmps220
   go_wp2_with fail
   generalize w.alloc (.cells #[.int .i64 0, .string ⟨#[]⟩, .string ⟨#[]⟩, .slice none 0 0] 263) = w1 at *
   refine HN1.out.mono ?_
   rintro e w2 ⟨rfl, hw2⟩
   have HQ2 := hid (hw2.row HQ1.out)
   have HF2 := hid (HF1.out.trans (Fr.of_same hw2))
   have HR2 := hid (HR1.out.same hw2)
   have HN3 := hid (HN2.out w2 HR2.out)
   clear hw2 HN1 HQ1 HR1 HE1 HF1 HN2
   go_wp2_with fail
   refine HN3.out.mono ?_
   rintro e w3 ⟨rfl, hw3⟩
   have HQ3 := hid (hw3.row HQ2.out)
   have HF3 := hid (HF2.out.trans (Fr.of_same hw3))
   have HR3 := hid (HR2.out.same hw3)
   clear hw3 HN3 HQ2 HR2 HF2
   have HTX := hid (text_any rb s o S w3 hs HS.out HR3.out)
   clear HR3
   generalize textL s.data.toList s.data.toList.length [] S = r at *
   obtain ⟨tx, V⟩ := r
   go_wp2_with fail
   refine HTX.out.mono ?_
   rintro e w4 ⟨rfl, hr4, hf4⟩
   have HR4 := hid hr4
   have HQ4 := hid (HQ3.out.fr hf4 (by omega))
   have HF4 := hid (HF3.out.trans hf4)
   clear hr4 hf4 HTX HQ3 HF3
   have q0 := HQ4.out.cell (i := 0) rfl
   have q1 := HQ4.out.cell (i := 1) rfl
   have q2 := HQ4.out.cell (i := 2) rfl
   have q3 := HQ4.out.cell (i := 3) rfl
   have y0 := HQ4.out.thaw 0
   have y1 := HQ4.out.thaw 1
   have y2 := HQ4.out.thaw 2
   have y3 := HQ4.out.thaw 3
   go_wp2
   have Q7 := HQ4.out.put4 (.int .i64 1) (.string (ba tx)) (.string ⟨#[]⟩) (.slice none 0 0)
   have B7 := But.put4 w.heap.size w4 (.int .i64 1) (.string (ba tx)) (.string ⟨#[]⟩) (.slice none 0 0)
   generalize (((w4.setCell ⟨w.heap.size, 0, none⟩ (.int .i64 1)).setCell ⟨w.heap.size, 1, none⟩ (.string (ba tx))).setCell ⟨w.heap.size, 2, none⟩ (.string ⟨#[]⟩)).setCell ⟨w.heap.size, 3, none⟩ (.slice none 0 0) = w5 at *
   have e0 := Q7.cell (i := 0) rfl
   have e1 := Q7.cell (i := 1) rfl
   have e2 := Q7.cell (i := 2) rfl
   have e3 := Q7.cell (i := 3) rfl
   skip
   exact bodyPost_ret (v := .agg #[.int .i64 1, .string (ba tx), .string ⟨#[]⟩, .slice none 0 0]) (by simp [results, Tryz.results220, go_sem, e0, e1, e2, e3]) rfl (by
    rw [HK.out]
    exact ⟨_, 0, rfl, Sl.nil _ _ _ _, HR4.out.but B7 (by omega), But.fr HF4.out B7 (Nat.le_refl _)⟩)
end Go.Proofs.YtdkkkeoicekdgaaGreatDoor

end

section

namespace Go.Proofs.YtdkkkeoicekdgaaGreatDoor
set_option maxHeartbeats 3200000
set_option maxRecDepth 100000
open Go.Lib (hid)
open Go.RowKit
def pl2 (m rb : Nat) (w : World) : Nat := match w.cell? ⟨rb, 1, none⟩, w.cell? ⟨rb, 3, none⟩ with
 | some (.int _ a), some (.int _ e) => 2 * (m - a.toNat) + (if e = 0 then 1 else 0)
 | _, _ => 0
theorem z9h {m rb : Nat} {w : World} {s : BA} {o : Nat} {S : St} (h : RdAt w rb s o S) : pl2 m rb w = 2 * (m - S.1) + (if S.2 = 0 then 1 else 0) := by
 unfold pl2; rw [h.c1, h.c3]
 by_cases h0 : S.2 = 0
 ·rw [h0]; simp
 ·rw [if_neg h0]; simp [h0]
theorem zaz {l : List UInt8} {f : Nat} {h : Bool} {o : Nat} {acc : List Cs} {b : List UInt8 × St} (hb : b.1 ≠ [32]) : z0b l f h o acc b = (acc, b.2) := by
 cases f with
 | zero => rw [z0b]
 | succ f => rw [z0b, if_neg hb]
theorem cases_go {l : List UInt8} {f : Nat} {h : Bool} {o : Nat} {acc : List Cs} {b : List UInt8 × St} (hb : b.1 = [32]) :
  z0b l (f + 1) h o acc b = z0b l f h o (acc ++ [(z0y l (fun S => z0c l f h (o + 1) [] S) o b.2).1]) (oneF l [32, 125] (z0y l (fun S => z0c l f h (o + 1) [] S) o b.2).2) := by
 rw [z0b, if_pos hb]
theorem z5k {l : List UInt8} {f : Nat} {h : Bool} {o : Nat} {acc : List Pt} {S : St} (hb : ¬ (S.2 = 0 /\ S.1 < l.length /\ nextF l [125] S = false)) : z0c l f h o acc S = (acc, S) := by
 cases f with
 | zero => rw [z0c]
 | succ f => rw [z0c, if_neg hb]
theorem parts_go {l : List UInt8} {f : Nat} {h : Bool} {o : Nat} {acc : List Pt} {S : St} (hb : S.2 = 0 /\ S.1 < l.length /\ nextF l [125] S = false) :
  z0c l (f + 1) h o acc S = z0c l f h o (acc ++ [(partG l (fun h b => z0b l f h o [] b) h S).1]) (partG l (fun h b => z0b l f h o [] b) h S).2 := by
 rw [z0c, if_pos hb]
theorem rest_eq {s : BA} {S : St} (hS : Wf s.data.toList S) (h : ¬ (S.2 = 0 /\ S.1 < s.size)) : restF s S = ⟨#[]⟩ := by
 by_cases h0 : S.2 = 0
 ·have h1 : (restF s S).size = 0 := by rw [z3c, if_pos h0]; have := z3r hS; omega
  apply ByteArray.ext
  exact Array.eq_empty_of_size_eq_zero h1
 ·exact z19 h0
theorem zbo {s : BA} {S : St} (h : S.2 = 0 /\ S.1 < s.size) : (restF s S).toList.isEmpty = false := by
 rw [ByteArray.toList_eq, List.isEmpty_eq_false_iff]
 intro e
 have : (restF s S).size = 0 := by rw [<- z08, e]; rfl
 rw [z3c, if_pos h.1] at this; omega
theorem Env.frX {X : Nat -> Prop} {w w' : World} {rb : Nat} (h : Env w rb) (hf : Fr X w w') (hX : ∀ b, X b -> rb <= b) : Env w' rb := by
 obtain ⟨W, he, hb, hle⟩ := h
 exact ⟨W, he, ⟨hf.os.trans hb.os, hf.tape.trans hb.tape, hf.output.trans hb.output, Nat.le_trans hb.size hf.size, fun k hk => (hf.block k (Nat.lt_of_lt_of_le hk hb.size) (fun hx => by have := hX k hx; omega)).trans (hb.block k hk)⟩, hle⟩
theorem Gw.frC {e n : Nat} {B rb : Nat} {w w' : World} {v : Value} {xs : List Cs} {vs : List Value} (h : Gw e 2 (CCn n) B w v xs vs) (hf : Fr (· = rb) w w') (hrb : rb < B) : Gw e 2 (CCn n) B w' v xs vs := h.fr (kpC n) hf (fun b hb _ e => by omega)
theorem Gw.frP {e n : Nat} {B rb : Nat} {w w' : World} {v : Value} {xs : List Pt} {vs : List Value} (h : Gw e 4 (CPn n) B w v xs vs) (hf : Fr (· = rb) w w') (hrb : rb < B) : Gw e 4 (CPn n) B w' v xs vs := h.fr (kpP n) hf (fun b hb _ e => by omega)
theorem Gw.ownlt {α : Type} {e k : Nat} {C : World -> (Nat -> Prop) -> α -> List Value -> Prop} {B : Nat} {w : World} {v : Value} {xs : List α} {vs : List Value} (h : Gw e k C B w v xs vs) : ∀ b, v.ownBlock = some b -> b < w.heap.size := fun b hb => (h.own.lt b hb).2
theorem zdc (f : Nat) (HP : ∀ g, g < f -> z4m g) : z5a f := by
 intro h o rb s S w hs ho hS hf hR hE
 obtain ⟨i0, hi, hz0, hz1, hz2⟩ := info_parts info44
 have hlr := hR.lt
 have HBR : Hid (∀ g, g + 1 <= f -> ∀ (S : St) (W : World), Wf s.data.toList S -> s.size - S.1 < g + 1 -> RdAt W rb s o S -> Env W rb -> Calls Tryz.prog 284 #[.pointer (some ⟨rb, 0, none⟩), .bool h] W (zad rb s o W (z0y s.data.toList (fun S => z0c s.data.toList g h (o + 1) [] S) o S))) :=
  hid (fun g hg S W h1 h2 h3 h4 => zb1 g (HP g (by omega)) h o rb s S W hs (by omega) h1 h2 h3 h4)
 have HO1 : Hid (Calls Tryz.prog 270 #[.pointer (some ⟨rb, 0, none⟩), .string ⟨#[32]⟩] w fun e w' => e = .returned (.string (ba (oneF s.data.toList [32] S).1)) /\ RdAt w' rb s o (oneF s.data.toList [32] S).2 /\ Fr (· = rb) w w') := hid (z6a rb s ⟨#[32]⟩ o S w hs hS hR)
 have HG1 := hid (z1n (z0v s.data.toList [32] S) hS)
 have HLV : Hid ((oneF s.data.toList [32] S).1 = [32] -> (oneF s.data.toList [32] S).2.2 = 0) := hid z9j
 have HFU := hid hf
 have HE0 := hid hE
 generalize oneF s.data.toList [32] S = b0 at *
 clear hR hE hf hS HP
 obtain ⟨q0, S0⟩ := b0
 simp only at HO1 HG1 HLV HFU
 go_enter Tryz.func269, Tryz.ntmps269
 go_wp2_with fail
 refine HO1.out.mono ?_
 rintro e w1 ⟨rfl, hr1, hf1⟩
 have HR1 := hid hr1
 have HF1 := hid hf1
 have HE1 := hid (HE0.out.fr hf1)
 have HW1 : Hid (Gw 284 2 (CCn 0) w.heap.size w1 (.slice none 0 0) [] []) := hid (Gw.nil _ _ _ _ _)
 clear hr1 hf1 HO1 HE0
 go_wp2
 go_loopw [5, 6] (fun v q wr => ∃ (xs : List Cs) (vs : List Value) (a : Option Addr) (cap k g : Nat) (bs : List UInt8) (T : St), v = .slice a xs.length cap /\ q = .string (ba bs) /\ g <= f /\ Hid (Gw 284 2 (CCn k) w.heap.size wr (.slice a xs.length cap) xs vs) /\ Hid (RdAt wr rb s o T) /\ Hid (Env wr rb) /\ Hid (Fr (· = rb) w wr) /\ Hid (Wf s.data.toList T) /\ Hid (bs = [32] -> T.2 = 0) /\ Hid (T.2 = 0 -> s.size - T.1 < g) /\ Hid (xs.length <= T.1 + (if T.2 = 0 then 0 else 1)) /\ Hid (z0b s.data.toList f h o [] (q0, S0) = z0b s.data.toList g h o xs (bs, T))) (fun _ _ wr => pl2 s.size rb wr)
 case atStart => exact ⟨[], [], none, 0, 0, f, q0, S0, rfl, rfl, Nat.le_refl _, HW1, HR1, HE1, HF1, HG1, HLV, HFU, hid (Nat.zero_le _), hid rfl⟩
 case round =>
  obtain ⟨xs, vs, a, cap, k, g, bs, T, rfl, rfl, hgf, HGW, HRT, HET, HFT, HWT, HLT, HFG, HFEW, HQ⟩ := hrel
  clear HW1 HR1 HE1 HF1 HG1 HLV HFU
  have hBs : w.heap.size <= wr.heap.size := HFT.out.size
  have HM := hid (z9h (m := s.size) HRT.out)
  obtain ⟨n, HL⟩ : ∃ n, Hid (n = xs.length) := ⟨_, hid rfl⟩
  rw [<- HL.out]
  by_cases hb : bs = [32]
  rotate_left
  ·have HE := hid (HQ.out.trans (zaz (f := g) (h := h) (o := o) (acc := xs) (b := (bs, T)) hb))
   have hB : (bs == [32]) = false := beq_eq_false_iff_ne.2 hb
   clear hb
   go_wp2
   go_ret
   rw [HE.out]
   exact ⟨a, cap, k, by rw [HL.out]; rfl, HGW.out.done (kpC k), HRT.out, HFT.out⟩
  ·have h0 := HLT.out hb
   obtain ⟨g', rfl⟩ : ∃ g', g = g' + 1 := ⟨g - 1, by have := HFG.out h0; omega⟩
   have HE := hid (HQ.out.trans (cases_go (f := g') (h := h) (o := o) (acc := xs) (b := (bs, T)) hb))
   have hB : (bs == [32]) = true := beq_iff_eq.2 hb
   have HC := hid (HBR.out g' hgf T wr HWT.out (HFG.out h0) HRT.out HET.out)
   have HLIV := hid h0
   have HGB := hid (z7m (l := s.data.toList) (pf := fun S => z0c s.data.toList g' h (o + 1) [] S) (fun S => z2p _ _ _ _ _ _) o T)
   simp only at HE
   clear hb h0 HQ HRT
   generalize z0y s.data.toList (fun S => z0c s.data.toList g' h (o + 1) [] S) o T = r at *
   obtain ⟨⟨key, kids⟩, V⟩ := r
   simp only at HE HGB
   have HSV := hid (z1n HGB.out HWT.out)
   go_wp2_with fail
   refine HC.out.mono ?_
   rintro e w2 ⟨v2, n2, he, hsl, hr2, hf2⟩
   simp only [Cs.key, Cs.kids] at he hsl hr2
   obtain ⟨a2, l2, p2, rfl, -⟩ := hsl.form
   subst he
   obtain ⟨K, HK⟩ : ∃ K, Hid (k <= K /\ n2 <= K) := ⟨max k n2, hid ⟨Nat.le_max_left _ _, Nat.le_max_right _ _⟩⟩
   have HSL : Hid (SlP w2 (Fsh wr.heap.size w2) K (.slice a2 l2 p2) kids) := hid (hsl.le HK.out.2)
   have HR2 := hid hr2
   have HF2 := hid hf2
   have HGW2 := hid ((HGW.out.frC hf2 hlr).leC HK.out.1)
   have HOL := hid HGW.out.ownlt
   have HE2 := hid (HET.out.fr hf2)
   rw [<- HL.out] at HGW2 HOL
   have hown2 := HGW2.out.own
   rw [<- HL.out] at hown2
   have HO2 := hid hown2
   have hz2' : wr.heap.size <= w2.heap.size := hf2.size
   have hnf : n <= 2001 := by have h1 := HFEW.out; have h2 := z3r HWT.out; rw [HLIV.out, if_pos rfl, <- HL.out] at h1; omega
   clear hsl hr2 hf2 HC hown2
   go_wp2_with (at_builtin; refine wpList_append_lies _ rfl _ _ 261 rfl w.heap.size 284 i0 _ 2 40 Tryz.underlying261 hi hz0 hz1 hz2 rfl (by decide) _ _ _ rfl (HO2.out.alloc _) _ 1 1 [.string key, .slice a2 l2 p2] rfl rfl (z7z _ #[.string key, .slice a2 l2 p2] _ rfl) (by simp [Value.oneCell']) (by decide) (by unfold maxLen; omega) (by omega) (by simp; omega) (w2.heap.size + 1) (by simp) ?_; intro g5 c5 w5 hown5 hgrow5 hg5 _; have HO5 := hid hown5; have HG5 := hid hgrow5; have HGL5 := hid hg5; clear hown5 hgrow5 hg5)
   have hlt2 := HR2.out.lt
   have HGW5 : Hid (Gw 284 2 (CCn K) w.heap.size w5 (.slice (some ⟨g5, 0, none⟩) (n + 1) c5) (xs ++ [.mk key kids]) (vs ++ [.string key, .slice a2 l2 p2])) := hid
    (HGW2.out.push (kpC K) HL.out (CC.mk HSL.out) hBs HOL.out rfl HG5.out HO5.out (by rcases HGL5.out with z | z; exact .inl z; right; rw [z]; omega))
   have HR5 : Hid (RdAt w5 rb s o V) := hid (HR2.out.keep ((HG5.out.block rb (by rw [World.size_alloc]; omega) (fun e => by have := (HO2.out.lt rb e.symm).1; omega)).trans (Below.heap_alloc _ _ _ hlt2)))
   have HF5 : Hid (Fr (· = rb) w w5) := hid (((HFT.out.trans HF2.out).alloc _).grown HG5.out (fun g hg => .inl (HO2.out.lt g hg).1))
   have HE5 : Hid (Env w5 rb) := hid (HE2.out.frX (X := fun b => rb <= b) (((Fr.refl _ w2).alloc _).grown HG5.out (fun g hg => .inr (by have := (HO2.out.lt g hg).1; omega))) (fun _ h => h))
   have HO6 : Hid (Calls Tryz.prog 270 #[.pointer (some ⟨rb, 0, none⟩), .string ⟨#[32, 125]⟩] w5 fun e w' => e = .returned (.string (ba (oneF s.data.toList [32, 125] V).1)) /\ RdAt w' rb s o (oneF s.data.toList [32, 125] V).2 /\ Fr (· = rb) w5 w') := hid (z6a rb s ⟨#[32, 125]⟩ o V w5 hs HSV.out HR5.out)
   have HG6 := hid (z1n (z0v s.data.toList [32, 125] V) HSV.out)
   have HA6 : Hid ((oneF s.data.toList [32, 125] V).2.2 = 0 -> V.1 + 1 = (oneF s.data.toList [32, 125] V).2.1) := hid z8j
   have HGE6 := hid (z0v s.data.toList [32, 125] V).1
   have HL6 : Hid ((oneF s.data.toList [32, 125] V).1 = [32] -> (oneF s.data.toList [32, 125] V).2.2 = 0) := hid z9j
   clear HR2 HF2 HE2 HO2 HG5 HO5 HGL5 HSL HOL HGW2 HGW
   generalize oneF s.data.toList [32, 125] V = b6 at *
   obtain ⟨q6, T6⟩ := b6
   simp only at HO6 HG6 HA6 HGE6 HL6
   go_wp2_with fail
   refine HO6.out.mono ?_
   rintro e w6 ⟨rfl, hr6, hf6⟩
   have HR6 := hid hr6
   have HF6 := hid (HF5.out.trans hf6)
   have HE6 := hid (HE5.out.fr hf6)
   have HGW6 := hid (HGW5.out.frC hf6 hlr)
   clear hr6 hf6 HO6 HR5 HF5 HE5 HGW5
   have hT := HGB.out.1
   have hf0 := HFG.out HLIV.out
   have hfew := HFEW.out
   rw [HLIV.out, if_pos rfl] at hfew
   have hw6 := z3r HG6.out
   have hge6 := HGE6.out
   have hl0 := HLIV.out
   go_wp2
   go_roundw
   case rel => exact ⟨_, _, some ⟨g5, 0, none⟩, c5, K, g', q6, T6, by rw [List.length_append, <- HL.out]; rfl, rfl, by omega, by rw [List.length_append, <- HL.out]; exact HGW6, HR6, HE6, HF6, HG6, HL6, hid (fun e => by have := HA6.out e; omega), hid (by
    rw [List.length_append]
    by_cases e : T6.2 = 0
    ·rw [if_pos e]; have := HA6.out e; simp only [List.length_cons, List.length_nil]; omega
    ·rw [if_neg e]; simp only [List.length_cons, List.length_nil]; omega), HE⟩
   case measure =>
    have h1 := z9h (m := s.size) HR6.out
    rw [HM.out, h1, if_pos hl0]
    by_cases e : T6.2 = 0
    ·rw [if_pos e]; have := HA6.out e; omega
    ·rw [if_neg e]; omega
theorem zbv (f : Nat) (HC : ∀ g, g < f -> z5a g) : z4m f := by
 intro h o rb s S w hs ho hS hf hR hE
 obtain ⟨i0, hi, hz0, hz1, hz2⟩ := info_parts info42
 have hlr := hR.lt
 have HBR : Hid (∀ g, g + 1 <= f -> ∀ (S : St) (W : World), Wf s.data.toList S -> s.size - S.1 < g + 1 -> RdAt W rb s o S -> Env W rb -> Calls Tryz.prog 220 #[.pointer (some ⟨rb, 0, none⟩), .bool h] W (z6n rb s o W (partG s.data.toList (fun h b => z0b s.data.toList g h o [] b) h S))) :=
  hid (fun g hg S W h1 h2 h3 h4 => z3g g (HC g (by omega)) h o rb s S W hs (by omega) h1 h2 h3 h4)
 have HR0 := hid hR
 have HE0 := hid hE
 have HS0 := hid hS
 have HFU0 := hid hf
 have HW0 : Hid (Gw 263 4 (CPn 0) w.heap.size w (.slice none 0 0) [] []) := hid (Gw.nil _ _ _ _ _)
 clear hR hE hf hS HC
 go_enter Tryz.func189, Tryz.ntmps189
 go_wp2
 go_loopw [5] (fun v wr => ∃ (xs : List Pt) (vs : List Value) (a : Option Addr) (cap k g : Nat) (T : St), v = .slice a xs.length cap /\ g <= f /\ Hid (Gw 263 4 (CPn k) w.heap.size wr (.slice a xs.length cap) xs vs) /\ Hid (RdAt wr rb s o T) /\ Hid (Env wr rb) /\ Hid (Fr (· = rb) w wr) /\ Hid (Wf s.data.toList T) /\ Hid (T.2 = 0 -> s.size - T.1 < g) /\ Hid (xs.length <= T.1 + (if T.2 = 0 then 0 else 1)) /\ Hid (z0c s.data.toList f h o [] S = z0c s.data.toList g h o xs T)) (fun _ wr => pl2 s.size rb wr)
 case atStart => exact ⟨[], [], none, 0, 0, f, S, rfl, Nat.le_refl _, HW0, HR0, HE0, hid (Fr.refl _ _), HS0, HFU0, hid (Nat.zero_le _), hid rfl⟩
 case round =>
  obtain ⟨xs, vs, a, cap, k, g, T, rfl, hgf, HGW, HRT, HET, HFT, HWT, HFG, HFEW, HQ⟩ := hrel
  clear HW0 HR0 HE0 HS0 HFU0
  have hBs : w.heap.size <= wr.heap.size := HFT.out.size
  have HM := hid (z9h (m := s.size) HRT.out)
  have HRS := hid (z1q rb s o T wr hs HWT.out HRT.out)
  obtain ⟨n, HL⟩ : ∃ n, Hid (n = xs.length) := ⟨_, hid rfl⟩
  rw [<- HL.out]
  by_cases hlv : T.2 = 0 /\ T.1 < s.size
  rotate_left
  ·have HE := hid (HQ.out.trans (z5k (f := g) (h := h) (o := o) (acc := xs) (fun e => hlv ⟨e.1, by have := e.2.1; rw [z08] at this; exact this⟩)))
   rw [rest_eq HWT.out hlv] at HRS
   clear hlv
   go_wp2_with fail
   refine HRS.out.mono ?_
   rintro e w2 ⟨rfl, hw2⟩
   have HR2 := hid (HRT.out.same hw2)
   have HF2 := hid (HFT.out.trans (Fr.of_same hw2))
   have HGW2 := hid (HGW.out.frP (rb := rb) (Fr.of_same hw2) hlr)
   clear hw2
   go_wp2
   go_ret
   rw [HE.out]
   exact ⟨a, cap, k, by rw [HL.out]; rfl, HGW2.out.done (kpP k), HR2.out, HF2.out⟩
  ·have hne := zbo (s := s) (S := T) hlv
   have HN1 : Hid (∀ W, RdAt W rb s o T -> Calls Tryz.prog 219 #[.pointer (some ⟨rb, 0, none⟩), .string ⟨#[125]⟩] W fun e w' => e = .returned (.bool (nextF s.data.toList [125] T)) /\ Same W w') := hid (fun W hW => z1i rb s ⟨#[125]⟩ o T W hs HWT.out (by decide) hW)
   generalize restF s T = R at *
   cases hnx : nextF s.data.toList [125] T with
   | true =>
    have HE := hid (HQ.out.trans (z5k (f := g) (h := h) (o := o) (acc := xs) (fun e => by have := e.2.2; rw [hnx] at this; cases this)))
    rw [hnx] at HN1
    clear hlv hnx
    go_wp2_with fail
    refine HRS.out.mono ?_
    rintro e w2 ⟨rfl, hw2⟩
    have HR2 := hid (HRT.out.same hw2)
    have HF2 := hid (HFT.out.trans (Fr.of_same hw2))
    have HGW2 := hid (HGW.out.frP (rb := rb) (Fr.of_same hw2) hlr)
    have HN2 := hid (HN1.out w2 HR2.out)
    clear hw2 HN1
    go_wp2_with fail
    refine HN2.out.mono ?_
    rintro e w3 ⟨rfl, hw3⟩
    have HR3 := hid (HR2.out.same hw3)
    have HF3 := hid (HF2.out.trans (Fr.of_same hw3))
    have HGW3 := hid (HGW2.out.frP (rb := rb) (Fr.of_same hw3) hlr)
    clear hw3
    go_wp2
    go_ret
    rw [HE.out]
    exact ⟨a, cap, k, by rw [HL.out]; rfl, HGW3.out.done (kpP k), HR3.out, HF3.out⟩
   | false =>
    obtain ⟨h0, hlt⟩ := hlv
    have hlt2 : T.1 < s.data.toList.length := by rw [z08]; exact hlt
    obtain ⟨g', rfl⟩ : ∃ g', g = g' + 1 := ⟨g - 1, by have := HFG.out h0; omega⟩
    have HE := hid (HQ.out.trans (parts_go (f := g') (h := h) (o := o) (acc := xs) ⟨h0, hlt2, hnx⟩))
    have HADV := hid (z9i (cf := fun h b => z0b s.data.toList g' h o [] b) (fun h b => z4i _ _ _ _ _ _) (h := h) h0 hlt2 hnx)
    have HGB := hid (zcr (l := s.data.toList) (cf := fun h b => z0b s.data.toList g' h o [] b) (fun h b => z4i _ _ _ _ _ _) h T)
    have HPA := hid (fun W h3 h4 => HBR.out g' hgf T W HWT.out (HFG.out h0) h3 h4)
    have HLIV := hid h0
    rw [hnx] at HN1
    clear h0 hlt hlt2 hnx HQ
    go_wp2_with fail
    refine HRS.out.mono ?_
    rintro e w2 ⟨rfl, hw2⟩
    have HR2 := hid (HRT.out.same hw2)
    have HF2 := hid (HFT.out.trans (Fr.of_same hw2))
    have HE2 := hid (HET.out.same hw2)
    have HGW2 := hid (HGW.out.frP (rb := rb) (Fr.of_same hw2) hlr)
    have HN2 := hid (HN1.out w2 HR2.out)
    clear hw2 HN1 HRT HFT HET HGW
    go_wp2_with fail
    refine HN2.out.mono ?_
    rintro e w3 ⟨rfl, hw3⟩
    have HR3 := hid (HR2.out.same hw3)
    have HF3 := hid (HF2.out.trans (Fr.of_same hw3))
    have HE3 := hid (HE2.out.same hw3)
    have HGW3 := hid (HGW2.out.frP (rb := rb) (Fr.of_same hw3) hlr)
    have HC3 := hid (HPA.out w3 HR3.out HE3.out)
    clear hw3 HN2 HR2 HF2 HE2 HGW2 HPA HR3
    generalize partG s.data.toList (fun h b => z0b s.data.toList g' h o [] b) h T = r at *
    obtain ⟨⟨pk, pt, pn, cs⟩, V⟩ := r
    simp only at HE HGB HADV
    have HSV := hid (z1n HGB.out HWT.out)
    go_wp2_with fail
    refine HC3.out.mono ?_
    rintro e w4 ⟨v2, n2, he, hsl, hr4, hf4⟩
    simp only [Pt.k, Pt.t, Pt.n, Pt.cs] at he hsl hr4
    obtain ⟨a2, l2, p2, rfl, -⟩ := hsl.form
    subst he
    obtain ⟨K, HK⟩ : ∃ K, Hid (k <= K + 1 /\ n2 <= K) := ⟨max k n2, hid ⟨by omega, Nat.le_max_right _ _⟩⟩
    have HSL : Hid (SlC w4 (Fsh w3.heap.size w4) K (.slice a2 l2 p2) cs) := hid (hsl.le HK.out.2)
    have HR4 := hid hr4
    have HF4 := hid (HF3.out.trans hf4)
    have HE4 := hid (HE3.out.fr hf4)
    have HGW4 := hid ((HGW3.out.frP hf4 hlr).leP HK.out.1)
    have HOL := hid HGW3.out.ownlt
    rw [<- HL.out] at HGW4 HOL
    have hown4 := HGW4.out.own
    rw [<- HL.out] at hown4
    have HO4 := hid hown4
    have hz4 : w3.heap.size <= w4.heap.size := hf4.size
    have hz3 : w.heap.size <= w3.heap.size := HF3.out.size
    have hnf : n <= 2001 := by have h1 := HFEW.out; have h2 := z3r HWT.out; rw [HLIV.out, if_pos rfl, <- HL.out] at h1; omega
    clear hsl hr4 hf4 HC3 hown4 HF3 HE3 HGW3
    go_wp2_with (at_builtin; refine wpList_append_lies _ rfl _ _ 199 rfl w.heap.size 263 i0 _ 4 64 Tryz.underlying199 hi hz0 hz1 hz2 rfl (by decide) _ _ _ rfl (HO4.out.alloc _) _ 1 1 [.int .i64 pk, .string pt, .string pn, .slice a2 l2 p2] rfl rfl (z7z _ #[.int .i64 pk, .string pt, .string pn, .slice a2 l2 p2] _ rfl) (by simp [Value.oneCell']) (by decide) (by unfold maxLen; omega) (by omega) (by simp; omega) (w4.heap.size + 1) (by simp) ?_; intro g5 c5 w5 hown5 hgrow5 hg5 _; have HO5 := hid hown5; have HG5 := hid hgrow5; have HGL5 := hid hg5; clear hown5 hgrow5 hg5)
    have hlt4 := HR4.out.lt
    have HGW5 : Hid (Gw 263 4 (CPn (K + 1)) w.heap.size w5 (.slice (some ⟨g5, 0, none⟩) (n + 1) c5) (xs ++ [.mk pk pt pn cs]) (vs ++ [.int .i64 pk, .string pt, .string pn, .slice a2 l2 p2])) := hid
     (HGW4.out.push (kpP (K + 1)) HL.out (CP.mk HSL.out) hz3 HOL.out rfl HG5.out HO5.out (by rcases HGL5.out with z | z; exact .inl z; right; rw [z]; omega))
    have HR5 : Hid (RdAt w5 rb s o V) := hid (HR4.out.keep ((HG5.out.block rb (by rw [World.size_alloc]; omega) (fun e => by have := (HO4.out.lt rb e.symm).1; omega)).trans (Below.heap_alloc _ _ _ hlt4)))
    have HF5 : Hid (Fr (· = rb) w w5) := hid ((HF4.out.alloc _).grown HG5.out (fun g hg => .inl (HO4.out.lt g hg).1))
    have HE5 : Hid (Env w5 rb) := hid (HE4.out.frX (X := fun b => rb <= b) (((Fr.refl _ w4).alloc _).grown HG5.out (fun g hg => .inr (by have := (HO4.out.lt g hg).1; omega))) (fun _ h => h))
    clear HR4 HF4 HE4 HO4 HG5 HO5 HGL5 HSL HOL HGW4
    have hT := HGB.out.1
    have hf0 := HFG.out HLIV.out
    have hfew := HFEW.out
    rw [HLIV.out, if_pos rfl] at hfew
    have hw6 := z3r HSV.out
    have hl0 := HLIV.out
    go_roundw
    case rel => exact ⟨_, _, some ⟨g5, 0, none⟩, c5, K + 1, g', V, by rw [List.length_append, <- HL.out]; rfl, by omega, by rw [List.length_append, <- HL.out]; exact HGW5, HR5, HE5, HF5, HSV, hid (fun e => by rcases HADV.out with z | z; exact absurd e z; omega), hid (by
     rw [List.length_append]
     by_cases e : V.2 = 0
     ·rw [if_pos e]; rcases HADV.out with z | z
      ·exact absurd e z
      ·simp only [List.length_cons, List.length_nil]; omega
     ·rw [if_neg e]; simp only [List.length_cons, List.length_nil]; omega), HE⟩
    case measure =>
     have h1 := z9h (m := s.size) HR5.out
     rw [HM.out, h1, if_pos hl0]
     by_cases e : V.2 = 0
     ·rw [if_pos e]; rcases HADV.out with z | z
      ·exact absurd e z
      ·omega
     ·rw [if_neg e]; omega
theorem zdh : ∀ f, z5a f /\ z4m f := by
 intro f
 induction f using Nat.strongRecOn with
 | _ f ih => exact ⟨zdc f (fun g hg => (ih g hg).2), zbv f (fun g hg => (ih g hg).1)⟩
end Go.Proofs.YtdkkkeoicekdgaaGreatDoor

end

section

namespace Go.Proofs.YtdkkkeoicekdgaaGreatDoor
set_option maxHeartbeats 3200000
set_option maxRecDepth 100000
open Go.Lib (hid)
open Go.RowKit
theorem z6x {m : Nat} : ∀ {xs : List Pt} {x : Pt}, smPs m xs -> smP m x -> smPs m (xs ++ [x])
 | [], x, _, h => by show smPs m [x]; rw [smPs]; exact ⟨h, by rw [smPs]; trivial⟩
 | y :: r, x, hs, h => by rw [smPs] at hs; show smPs m (y :: (r ++ [x])); rw [smPs]; exact ⟨hs.1, z6x hs.2 h⟩
theorem z6y {m : Nat} : ∀ {xs : List Cs} {x : Cs}, smCs m xs -> smC m x -> smCs m (xs ++ [x])
 | [], x, _, h => by show smCs m [x]; rw [smCs]; exact ⟨h, by rw [smCs]; trivial⟩
 | y :: r, x, hs, h => by rw [smCs] at hs; show smCs m (y :: (r ++ [x])); rw [smCs]; exact ⟨hs.1, z6y hs.2 h⟩
theorem z6k (l : List UInt8) : (ba l).size = l.length := by show l.toArray.size = _; simp
theorem z6d (l : List UInt8) (p : List UInt8 -> Bool) (S : St) : (longF l p S).1.length <= l.length := by
 unfold longF
 split
 ·split
  ·simp
  ·simp; omega
 ·simp
theorem key_len (l : List UInt8) (S : St) : (keyF l S).1.length <= l.length + 1 := by
 unfold keyF
 split
 ·have := z6d l numB (wordF l [61] S); simp; omega
 ·have := z6d l nameB S; omega
theorem zbf {l : List UInt8} {m : Nat} (hm : l.length + 1 <= m) : ∀ f, (∀ h o acc S, smPs m acc -> smPs m (z0c l f h o acc S).1) /\ (∀ h o acc b, smCs m acc -> smCs m (z0b l f h o acc b).1)
 | 0 => ⟨fun h o acc S hs => by rw [z0c]; exact hs, fun h o acc b hs => by rw [z0b]; exact hs⟩
 | f + 1 => by
  obtain ⟨ih1, ih2⟩ := zbf hm f
  have hnil : smCs m [] := by rw [smCs]; trivial
  have hnil2 : smPs m [] := by rw [smPs]; trivial
  refine ⟨fun h o acc S hs => ?_, fun h o acc b hs => ?_⟩
  ·rw [z0c]
   split
   ·refine ih1 _ _ _ _ (z6x hs ?_)
    rw [smP_eq]
    unfold partG
    split
    ·have hn := z6d l nameB (wordF l [123] S)
     unfold holeG
     simp only
     split
     ·exact ⟨by show (ba _).size <= m; rw [z6k]; omega, ih2 _ _ _ _ hnil⟩
     ·split
      ·exact ⟨by show (ba _).size <= m; rw [z6k]; omega, ih2 _ _ _ _ hnil⟩
      ·exact ⟨by show (ba _).size <= m; rw [z6k]; omega, hnil⟩
    ·split
     ·exact ⟨Nat.zero_le _, hnil⟩
     ·exact ⟨Nat.zero_le _, hnil⟩
   ·exact hs
  ·rw [z0b]
   split
   ·refine ih2 _ _ _ _ (z6y hs ?_)
    rw [zbg]
    have hn := key_len l b.2
    unfold z0y
    exact ⟨by show (ba _).size <= m; rw [z6k]; omega, ih1 _ _ _ _ hnil2⟩
   ·exact hs
theorem sm_read {l : List UInt8} {m : Nat} (hm : l.length + 1 <= m) : smPs m (readF l).1 := (zbf hm (l.length + 1)).1 false 0 [] (0, 0) (by rw [smPs]; trivial)
theorem zab {w w1 w3 : World} (hb : Below w.heap.size w w1) (hf : Fr (· = w.heap.size) w1 w3) : Below w.heap.size w w3 := Fr.to_below hb hf (Nat.le_refl _)
theorem zan {l : List UInt8} (h : 2000 < l.length) : z0p l = ([], 2, 0) := by unfold z0p; rw [if_pos h]
theorem zc0 {l : List UInt8} (h : ¬ 2000 < l.length) {E : St} (hE : endF l (readF l).2 = E) (h2 : E.2 ≠ 0) : z0p l = ([], E.2, E.1) := by subst hE; unfold z0p; rw [if_neg h, if_pos h2]
theorem z8h {l : List UInt8} (h : ¬ 2000 < l.length) {E : St} (hE : endF l (readF l).2 = E) (h2 : E.2 = 0) (h3 : z1e (readF l).1 ≠ 0) : z0p l = ([], z1e (readF l).1, 0) := by subst hE; unfold z0p; rw [if_neg h, if_neg (by simpa using h2), if_pos h3]
theorem parse_ok {l : List UInt8} (h : ¬ 2000 < l.length) {E : St} (hE : endF l (readF l).2 = E) (h2 : E.2 = 0) (h3 : z1e (readF l).1 = 0) : z0p l = ((readF l).1, 0, 0) := by subst hE; unfold z0p; rw [if_neg h, if_neg (by simpa using h2), if_neg (by simpa using h3)]
theorem zc1 (s : BA) (w : World) (hEV : EnvW w) :
  Calls Tryz.prog 159 #[.string s] w fun e w' => (∃ a cap n, e = .returned (.tuple #[.slice a (z0p s.data.toList).1.length cap, .int .i64 (z0p s.data.toList).2.1, .int .i64 (z0p s.data.toList).2.2]) /\ SlP w' (Fsh w.heap.size w') n (.slice a (z0p s.data.toList).1.length cap) (z0p s.data.toList).1) /\ Below w.heap.size w w' := by
 have hlen := z08 s
 by_cases hl : 2000 < s.size
 ·have HF := hid (zan (l := s.data.toList) (by omega))
  have hB : (2000 : Int) < s.size := by omega
  clear hl hlen hEV
  go_enter Tryz.func159, Tryz.ntmps159
  go_wp2
  exact bodyPost_ret (v := .tuple #[.slice none 0 0, .int .i64 2, .int .i64 0]) (by simp [results, Tryz.results159, go_sem]) rfl (by
   rw [HF.out]; exact ⟨⟨none, 0, 0, rfl, Sl.nil _ _ _ _⟩, Below.refl _ _⟩)
 have hB : ¬ (2000 : Int) < s.size := by omega
 have HSZ : Hid (s.size <= 2000) := hid (by omega)
 have HR : Hid (RdAt (w.alloc (.cells #[.string s, .int .i64 0, .int .i64 0, .int .i64 0] 234)) w.heap.size s 0 (0, 0)) := hid (z01 w #[.string s, .int .i64 0, .int .i64 0, .int .i64 0] 234)
 have HE : Hid (Env (w.alloc (.cells #[.string s, .int .i64 0, .int .i64 0, .int .i64 0] 234)) w.heap.size) := hid ⟨w, hEV, z04 _ _, Nat.le_refl _⟩
 have HC : Hid (Calls Tryz.prog 189 #[.pointer (some ⟨w.heap.size, 0, none⟩), .bool false] (w.alloc (.cells #[.string s, .int .i64 0, .int .i64 0, .int .i64 0] 234)) (z86 w.heap.size s 0 (w.alloc (.cells #[.string s, .int .i64 0, .int .i64 0, .int .i64 0] 234)) (readF s.data.toList))) :=
  hid ((zdh (s.data.toList.length + 1)).2 false 0 w.heap.size s (0, 0) _ HSZ.out (by omega) ⟨Nat.zero_le _, .inl rfl⟩ (fun _ => by simp only; omega) HR.out HE.out)
 have HWF := hid (z8g s.data.toList)
 have HCNT : Hid ((readF s.data.toList).2.2 = 0 -> cntPs (readF s.data.toList).1 <= 2000) := hid (fun h => by have := cnt_read h; have := HSZ.out; omega)
 have HSM : Hid (smPs 140737488351232 (readF s.data.toList).1) := hid (sm_read (by have := HSZ.out; omega))
 have HEV := hid hEV
 have HZ1 := hid (World.size_alloc w (.cells #[.string s, .int .i64 0, .int .i64 0, .int .i64 0] 234))
 have HB1 := hid (z04 w (.cells #[.string s, .int .i64 0, .int .i64 0, .int .i64 0] 234))
 have HEND := hid (end_live (l := s.data.toList))
 have HLEN := hid hlen
 have HG1 : Hid (∀ E : St, endF s.data.toList (readF s.data.toList).2 = E -> E.2 ≠ 0 -> z0p s.data.toList = ([], E.2, E.1)) := hid (fun E h1 h2 => zc0 (by omega) h1 h2)
 have HG2 : Hid (∀ E : St, endF s.data.toList (readF s.data.toList).2 = E -> E.2 = 0 -> z1e (readF s.data.toList).1 ≠ 0 -> z0p s.data.toList = ([], z1e (readF s.data.toList).1, 0)) := hid (fun E h1 h2 h3 => z8h (by omega) h1 h2 h3)
 have HG3 : Hid (∀ E : St, endF s.data.toList (readF s.data.toList).2 = E -> E.2 = 0 -> z1e (readF s.data.toList).1 = 0 -> z0p s.data.toList = ((readF s.data.toList).1, 0, 0)) := hid (fun E h1 h2 h3 => parse_ok (by omega) h1 h2 h3)
 clear hl hlen hEV HR HE
 go_enter Tryz.func159, Tryz.ntmps159
 go_wp2_with fail
 generalize w.alloc (.cells #[.string s, .int .i64 0, .int .i64 0, .int .i64 0] 234) = w1 at *
 generalize readF s.data.toList = rd at *
 obtain ⟨xs, V⟩ := rd
 simp only at HWF HCNT HSM HEND HG1 HG2 HG3
 refine HC.out.mono ?_
 rintro e w2 ⟨a, cap, n, rfl, hsl, hr2, hf2⟩
 simp only at hsl hr2
 obtain ⟨ln, HLL⟩ : ∃ ln, Hid (ln = xs.length) := ⟨_, hid rfl⟩
 rw [<- HLL.out]
 have HR2 := hid hr2
 have HF2 := hid hf2
 have HS2 : Hid (SlP w2 (Fsh w1.heap.size w2) n (.slice a xs.length cap) xs) := hid hsl
 clear hsl hr2 hf2 HC
 have hlw1 : w.heap.size < w1.heap.size := by rw [HZ1.out]; omega
 have k1 := HR2.out.c1
 by_cases hv : V.1 < s.size
 ·have hBv : (V.1 : Int) < s.size := by omega
  obtain ⟨E, HEE⟩ : ∃ E, Hid (endF s.data.toList V = E) := ⟨_, hid rfl⟩
  have HFE : Hid (failF s.data.toList V = E) := hid (by rw [<- HEE.out]; unfold endF; rw [if_pos (by rw [HLEN.out]; exact hv)])
  have HFL := hid (z3l w.heap.size s 0 V w2 HSZ.out HWF.out HR2.out)
  rw [HFE.out] at HFL
  clear hv
  go_wp2_with fail
  refine HFL.out.mono ?_
  rintro e w3 ⟨rfl, hr3, hf3⟩
  have HR3 := hid hr3
  have HF3 := hid (HF2.out.trans hf3)
  have HS3 : Hid (SlP w3 (Fsh w1.heap.size w3) n (.slice a xs.length cap) xs) := hid (SlP.keep HS2.out (fun b hb => hf3.block b hb.2 (fun e => by omega)) (fun b hb => ⟨hb.1, Nat.lt_of_lt_of_le hb.2 hf3.size⟩))
  clear hr3 hf3 HFL HR2 HF2 HS2 k1
  have c3 := HR3.out.c3
  have c1 := HR3.out.c1
  have HB3 : Hid (Below w.heap.size w w3) := hid (zab HB1.out HF3.out)
  by_cases he0 : E.2 = 0
  ·have HL0 := hid (HEND.out (by rw [HEE.out]; exact he0))
   have HCN := hid (HCNT.out HL0.out.1)
   rw [he0] at c3
   simp only [Int.natCast_zero] at c3
   have HRI := hid (z1l n w3 a cap xs (SlP.keep HS3.out (fun _ _ => rfl) (fun b hb => hb.2)) HCN.out HSM.out (HEV.out.below HB3.out))
   rw [<- HLL.out] at HRI
   have HG22 := hid (HG2.out E HEE.out he0)
   have HG33 := hid (HG3.out E HEE.out he0)
   clear HG1 HG2 HG3 he0 HEND HCNT HL0
   generalize z1e xs = q at *
   by_cases hq : q = 0
   ·have HF := hid (HG33.out hq)
    subst hq
    go_wp2_with fail
    refine HRI.out.mono ?_
    rintro e w4 ⟨rfl, hb4⟩
    have HB4 := hid (z00 HB3.out hb4)
    have HS4 : Hid (SlP w4 (Fsh w.heap.size w4) n (.slice a xs.length cap) xs) := hid (SlP.keep HS3.out (fun b hb => hb4.block b hb.2) (fun b hb => ⟨by have := HB1.out.size; omega, Nat.lt_of_lt_of_le hb.2 hb4.size⟩))
    clear hb4 c3 c1
    go_wp2
    exact bodyPost_ret (v := .tuple #[.slice a ln cap, .int .i64 0, .int .i64 0]) (by simp [results, Tryz.results159, go_sem]) rfl (by
     rw [HF.out, HLL.out]; exact ⟨⟨a, cap, n, rfl, HS4.out⟩, HB4.out⟩)
   ·have HF := hid (HG22.out hq)
    have hB3 : ((q : Int) != 0) = true := by simp; omega
    clear hq
    go_wp2_with fail
    refine HRI.out.mono ?_
    rintro e w4 ⟨rfl, hb4⟩
    have HB4 := hid (z00 HB3.out hb4)
    clear hb4 c3 c1
    go_wp2
    exact bodyPost_ret (v := .tuple #[.slice none 0 0, .int .i64 q, .int .i64 0]) (by simp [results, Tryz.results159, go_sem]) rfl (by
     rw [HF.out]; exact ⟨⟨none, 0, 0, rfl, Sl.nil _ _ _ _⟩, HB4.out⟩)
  ·have HF := hid (HG1.out E HEE.out he0)
   have hB3 : ((E.2 : Int) != 0) = true := by simp; omega
   clear he0
   go_wp2
   go_quiet (fail)
   go_wp2
   exact bodyPost_ret (v := .tuple #[.slice none 0 0, .int .i64 E.2, .int .i64 E.1]) (by simp [results, Tryz.results159, go_sem]) rfl (by
    rw [HF.out]; exact ⟨⟨none, 0, 0, rfl, Sl.nil _ _ _ _⟩, z09 HB3.out _⟩)
 ·have hBv : ¬ (V.1 : Int) < s.size := by omega
  obtain ⟨E, HE0⟩ : ∃ E, Hid (E = V) := ⟨_, hid rfl⟩
  have HEE : Hid (endF s.data.toList V = E) := hid (by rw [HE0.out]; unfold endF; rw [if_neg (by rw [HLEN.out]; exact hv)])
  rw [<- HE0.out] at HR2
  have hBv2 : ¬ (E.1 : Int) < s.size := by rw [HE0.out]; exact hBv
  obtain ⟨w3, HW3⟩ : ∃ w3, Hid (w3 = w2) := ⟨_, hid rfl⟩
  rw [<- HW3.out] at HR2 HF2 HS2 k1 ⊢
  have HR3 := HR2
  have HF3 := HF2
  have HS3 := HS2
  clear hv k1 HR2 HF2 HS2 hBv
  have c3 := HR3.out.c3
  have c1 := HR3.out.c1
  have HB3 : Hid (Below w.heap.size w w3) := hid (zab HB1.out HF3.out)
  by_cases he0 : E.2 = 0
  ·have HL0 := hid (HEND.out (by rw [HEE.out]; exact he0))
   have HCN := hid (HCNT.out HL0.out.1)
   rw [he0] at c3
   simp only [Int.natCast_zero] at c3
   have HRI := hid (z1l n w3 a cap xs (SlP.keep HS3.out (fun _ _ => rfl) (fun b hb => hb.2)) HCN.out HSM.out (HEV.out.below HB3.out))
   rw [<- HLL.out] at HRI
   have HG22 := hid (HG2.out E HEE.out he0)
   have HG33 := hid (HG3.out E HEE.out he0)
   clear HG1 HG2 HG3 he0 HEND HCNT HL0
   generalize z1e xs = q at *
   by_cases hq : q = 0
   ·have HF := hid (HG33.out hq)
    subst hq
    go_wp2_with fail
    refine HRI.out.mono ?_
    rintro e w4 ⟨rfl, hb4⟩
    have HB4 := hid (z00 HB3.out hb4)
    have HS4 : Hid (SlP w4 (Fsh w.heap.size w4) n (.slice a xs.length cap) xs) := hid (SlP.keep HS3.out (fun b hb => hb4.block b hb.2) (fun b hb => ⟨by have := HB1.out.size; omega, Nat.lt_of_lt_of_le hb.2 hb4.size⟩))
    clear hb4 c3 c1
    go_wp2
    exact bodyPost_ret (v := .tuple #[.slice a ln cap, .int .i64 0, .int .i64 0]) (by simp [results, Tryz.results159, go_sem]) rfl (by
     rw [HF.out, HLL.out]; exact ⟨⟨a, cap, n, rfl, HS4.out⟩, HB4.out⟩)
   ·have HF := hid (HG22.out hq)
    have hB3 : ((q : Int) != 0) = true := by simp; omega
    clear hq
    go_wp2_with fail
    refine HRI.out.mono ?_
    rintro e w4 ⟨rfl, hb4⟩
    have HB4 := hid (z00 HB3.out hb4)
    clear hb4 c3 c1
    go_wp2
    exact bodyPost_ret (v := .tuple #[.slice none 0 0, .int .i64 q, .int .i64 0]) (by simp [results, Tryz.results159, go_sem]) rfl (by
     rw [HF.out]; exact ⟨⟨none, 0, 0, rfl, Sl.nil _ _ _ _⟩, HB4.out⟩)
  ·have HF := hid (HG1.out E HEE.out he0)
   have hB3 : ((E.2 : Int) != 0) = true := by simp; omega
   clear he0
   go_wp2
   go_quiet (fail)
   go_wp2
   exact bodyPost_ret (v := .tuple #[.slice none 0 0, .int .i64 E.2, .int .i64 E.1]) (by simp [results, Tryz.results159, go_sem]) rfl (by
    rw [HF.out]; exact ⟨⟨none, 0, 0, rfl, Sl.nil _ _ _ _⟩, z09 HB3.out _⟩)
end Go.Proofs.YtdkkkeoicekdgaaGreatDoor

end

section

namespace Go.Proofs.YtdkkkeoicekdgaaGreatDoor.Dr
open Go.RowKit Go.Proofs.YtdkkkeoicekdgaaGreatDoor
end Go.Proofs.YtdkkkeoicekdgaaGreatDoor.Dr

end
