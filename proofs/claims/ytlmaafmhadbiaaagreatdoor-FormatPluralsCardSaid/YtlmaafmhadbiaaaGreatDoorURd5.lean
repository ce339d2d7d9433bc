/- The reader: a relation. -/
import Derived.Test.YtlmaafmhadbiaaaGreatDoorURd4
namespace Go.Proofs.YtlmaafmhadbiaaaGreatDoor.Pu
open Go.RowKit

theorem KpT.of_but {T : List Nat} {g : Nat} {w w' : World} {t : TypeId} {cs : List Value} (h : But g w w') (hg : Row w g t cs) (ht : t ∉ T) : KpT T w w' := fun b hb => h.block b (hb.ne hg ht)
theorem rel_of {l : List UInt8} {S S1 U V X : St} {m : Nat} {ng : Bool} {sp : List Sp} (h1 : wordF l [105] S = S1) (h2 : modF l S1 = (m, U)) (h3 : negF l U = (ng, V)) (h4 : spansF l V = (sp, X)) : relF l S = (⟨m, ng, sp⟩, X) := by
  unfold relF; rw [h1, h2, h3, h4]
theorem mod_yes {l : List UInt8} {S : St} (h : nextF l [32, 37] S = true) : modF l S = numF l (wordF l [32, 37, 32] S) := by unfold modF; rw [if_pos h]
theorem mod_no {l : List UInt8} {S : St} (h : nextF l [32, 37] S = false) : modF l S = (0, S) := by unfold modF; rw [h]; rfl
theorem neg_yes {l : List UInt8} {S : St} (h : nextF l [32, 33] S = true) : negF l S = (true, wordF l [32, 33, 61, 32] S) := by unfold negF; rw [if_pos h]
theorem neg_no {l : List UInt8} {S : St} (h : nextF l [32, 33] S = false) : negF l S = (false, wordF l [32, 61, 32] S) := by unfold negF; rw [h]; rfl
theorem sz_of {l : List UInt8} {s : BA} {A B : St} (hl : l = s.data.toList) (h : Ge l A B) (ha : A.1 ≤ s.size) : B.1 ≤ s.size := by subst hl; have := h.2 (by simpa using ha); simpa using this

set_option maxHeartbeats 6400000 in
set_option maxRecDepth 100000 in
theorem relation_any (rb : Nat) (s : BA) (S : St) (w : World) (hs : s.size ≤ 400) (hS : S.1 ≤ s.size) (hR : RdAt w rb s S) :
    Calls Tryz.prog 93 #[.pointer (some ⟨rb, 0, none⟩)] w fun e w' => ∃ a cap, e = .returned (.agg #[.int .i64 (relF s.data.toList S).1.m, .bool (relF s.data.toList S).1.neg, .slice a (relF s.data.toList S).1.sp.length cap]) ∧ SlS w' (Ty [130] w') (.slice a (relF s.data.toList S).1.sp.length cap) (relF s.data.toList S).1.sp ∧ RdAt w' rb s (relF s.data.toList S).2 ∧ Fr (· = rb) w w' := by
  have HR := Lib.hid hR
  have hlr := hR.lt
  clear hR
  have HW0 : Hid (∃ w0, w0 = (w.alloc (.cells #[.int .i64 0, .bool false, .slice none 0 0] 102)).alloc (.cells #[.int .i64 0, .bool false, .slice none 0 0] 102)) := Lib.hid ⟨_, rfl⟩
  have HWD : Hid (Calls Tryz.prog 77 #[.pointer (some ⟨rb, 0, none⟩), .string ⟨#[105]⟩] ((w.alloc (.cells #[.int .i64 0, .bool false, .slice none 0 0] 102)).alloc (.cells #[.int .i64 0, .bool false, .slice none 0 0] 102)) fun e w' => e = .returned (.tuple #[]) ∧ RdAt w' rb s (wordF s.data.toList [105] S) ∧ Fr (· = rb) ((w.alloc (.cells #[.int .i64 0, .bool false, .slice none 0 0] 102)).alloc (.cells #[.int .i64 0, .bool false, .slice none 0 0] 102)) w') := Lib.hid (word_any rb s ⟨#[105]⟩ S _ hs (by decide) hS ((HR.out.alloc _).alloc _))
  have HGW := Lib.hid (ge_word s.data.toList [105] S)
  clear HW0
  go_enter Tryz.func93, Tryz.ntmps93
  go_wp2_with fail
  refine HWD.out.mono ?_
  rintro e w1 ⟨rfl, hr, hf⟩
  have HA1 := Lib.hid (((row_new w #[.int .i64 0, .bool false, .slice none 0 0] 102).alloc (.cells #[.int .i64 0, .bool false, .slice none 0 0] 102)).fr hf (by omega))
  have HB1 : Hid (Row w1 (w.heap.size + 1) 102 [.int .i64 0, .bool false, .slice none 0 0]) := Lib.hid (by
    have h := (row_new (w.alloc (.cells #[.int .i64 0, .bool false, .slice none 0 0] 102)) #[.int .i64 0, .bool false, .slice none 0 0] 102).fr hf (by simp; omega)
    rw [World.size_alloc] at h; exact h)
  have HF1 := Lib.hid (((fr_alloc (· = rb) w _).alloc _).trans hf)
  have HR1 := Lib.hid hr
  have HL1 := Lib.hid (sz_of rfl HGW.out hS)
  clear hr hf HWD HGW HR
  obtain ⟨S1, HS1⟩ : ∃ S1, Hid (wordF s.data.toList [105] S = S1) := ⟨_, Lib.hid rfl⟩
  rw [HS1.out] at HR1 HL1
  have HN1 : Hid (Calls Tryz.prog 94 #[.pointer (some ⟨rb, 0, none⟩), .string ⟨#[32, 37]⟩] w1 fun e w' => e = .returned (.bool (nextF s.data.toList [32, 37] S1)) ∧ Same w1 w') := Lib.hid (next_any rb s ⟨#[32, 37]⟩ _ w1 hs HL1.out HR1.out)
  go_wp2_with fail
  refine HN1.out.mono ?_
  rintro e w2 ⟨rfl, hw⟩
  have HA2 := Lib.hid (hw.row HA1.out)
  have HB2 := Lib.hid (hw.row HB1.out)
  have HF2 := Lib.hid (HF1.out.trans (Fr.of_same hw))
  have HR2 := Lib.hid (HR1.out.same hw)
  clear hw HN1 HA1 HB1 HF1 HR1
  cases hb : nextF s.data.toList [32, 37] S1 with
  | true =>
    have HM0 := Lib.hid (mod_yes hb)
    clear hb
    have HWD : Hid (Calls Tryz.prog 77 #[.pointer (some ⟨rb, 0, none⟩), .string ⟨#[32, 37, 32]⟩] w2 fun e w' => e = .returned (.tuple #[]) ∧ RdAt w' rb s (wordF s.data.toList [32, 37, 32] S1) ∧ Fr (· = rb) w2 w') := Lib.hid (word_any rb s ⟨#[32, 37, 32]⟩ S1 w2 hs (by decide) HL1.out HR2.out)
    have HGW := Lib.hid (ge_word s.data.toList [32, 37, 32] S1)
    go_wp2_with fail
    refine HWD.out.mono ?_
    rintro e w3 ⟨rfl, hr, hf⟩
    have HA3 := Lib.hid (HA2.out.fr hf (by omega))
    have HB3 := Lib.hid (HB2.out.fr hf (by omega))
    have HF3 := Lib.hid (HF2.out.trans hf)
    have HL3 := Lib.hid (sz_of rfl HGW.out HL1.out)
    have HNU := Lib.hid (number_any rb s _ w3 hs HL3.out hr)
    have HGN := Lib.hid (sz_of rfl (ge_num s.data.toList (wordF s.data.toList [32, 37, 32] S1)) HL3.out)
    clear hr hf HWD HGW HA2 HB2 HF2 HR2
    go_wp2_with fail
    refine HNU.out.mono ?_
    rintro e w4 ⟨rfl, hr, hf⟩
    have HA4 := Lib.hid (HA3.out.fr hf (by omega))
    have HB4 := Lib.hid (HB3.out.fr hf (by omega))
    have HF4 := Lib.hid (HF3.out.trans hf)
    have HR4 := Lib.hid hr
    clear hr hf HNU HA3 HB3 HF3
    obtain ⟨m, U, HM1⟩ : ∃ m U, Hid (numF s.data.toList (wordF s.data.toList [32, 37, 32] S1) = (m, U)) := ⟨_, _, Lib.hid rfl⟩
    rw [HM1.out] at HR4 HGN ⊢
    have HM := Lib.hid (HM0.out.trans HM1.out)
    simp only at HR4 HGN ⊢
    have d0 := HB4.out.cell (i := 0) rfl
    have z0 := HB4.out.thaw 0
    have HB5 := Lib.hid (HB4.out.set 0 (.int .i64 m))
    have BB := (But.refl (w.heap.size + 1) w4).set 0 (.int .i64 m)
    have HA5 := Lib.hid (BB.row HA4.out (by omega))
    have HF5 := Lib.hid (BB.fr HF4.out (by omega))
    have HR5 := Lib.hid (HR4.out.but BB (by omega))
    have HL5 := HGN
    clear BB HA4 HB4 HF4 HR4 HM0 HM1 HGN HL3
    have HN5 : Hid (Calls Tryz.prog 94 #[.pointer (some ⟨rb, 0, none⟩), .string ⟨#[32, 33]⟩] (w4.setCell ⟨w.heap.size + 1, 0, none⟩ (.int .i64 m)) fun e w' => e = .returned (.bool (nextF s.data.toList [32, 33] U)) ∧ Same (w4.setCell ⟨w.heap.size + 1, 0, none⟩ (.int .i64 m)) w') := Lib.hid (next_any rb s ⟨#[32, 33]⟩ _ _ hs HL5.out HR5.out)
    go_wp2_with fail
    refine HN5.out.mono ?_
    rintro e w6 ⟨rfl, hw⟩
    have HA6 := Lib.hid (hw.row HA5.out)
    have HB6 := Lib.hid (hw.row HB5.out)
    have HF6 := Lib.hid (HF5.out.trans (Fr.of_same hw))
    have HR6 := Lib.hid (HR5.out.same hw)
    clear hw HN5 HA5 HB5 HF5 HR5
    cases hb : nextF s.data.toList [32, 33] U with
    | true =>
      have HG := Lib.hid (neg_yes hb)
      clear hb
      have HWD : Hid (Calls Tryz.prog 77 #[.pointer (some ⟨rb, 0, none⟩), .string ⟨#[32, 33, 61, 32]⟩] w6 fun e w' => e = .returned (.tuple #[]) ∧ RdAt w' rb s (wordF s.data.toList [32, 33, 61, 32] U) ∧ Fr (· = rb) w6 w') := Lib.hid (word_any rb s ⟨#[32, 33, 61, 32]⟩ U w6 hs (by decide) HL5.out HR6.out)
      have HGW := Lib.hid (ge_word s.data.toList [32, 33, 61, 32] U)
      go_wp2_with fail
      refine HWD.out.mono ?_
      rintro e w7 ⟨rfl, hr, hf⟩
      have HA7 := Lib.hid (HA6.out.fr hf (by omega))
      have HB7 := Lib.hid (HB6.out.fr hf (by omega))
      have HF7 := Lib.hid (HF6.out.trans hf)
      have HL7 := Lib.hid (sz_of rfl HGW.out HL5.out)
      have HR7 := Lib.hid hr
      clear hr hf HWD HGW HA6 HB6 HF6 HR6
      have d1 := HB7.out.cell (i := 1) rfl
      have z1 := HB7.out.thaw 1
      have HB8 := Lib.hid (HB7.out.set 1 (.bool true))
      have BB := (But.refl (w.heap.size + 1) w7).set 1 (.bool true)
      have HA8 := Lib.hid (BB.row HA7.out (by omega))
      have HF8 := Lib.hid (BB.fr HF7.out (by omega))
      have HR8 := Lib.hid (HR7.out.but BB (by omega))
      clear BB
      have HSP := Lib.hid (spans_any rb s _ (w7.setCell ⟨w.heap.size + 1, 1, none⟩ (.bool true)) hs HL7.out HR8.out)
      clear HA7 HB7 HF7 HR7
      go_wp2_with fail
      refine HSP.out.mono ?_
      rintro e w9 ⟨a, cap, rfl, hsl, hr, hf⟩
      have HA9 := Lib.hid (HA8.out.fr hf (by omega))
      have HB9 := Lib.hid (HB8.out.fr hf (by omega))
      have HF9 := Lib.hid (HF8.out.trans hf)
      have HR9 := Lib.hid hr
      have HSL := Lib.hid hsl
      clear hr hf hsl HSP HA8 HB8 HF8 HR8
      obtain ⟨sp, X, HSX⟩ : ∃ sp X, Hid (spansF s.data.toList (wordF s.data.toList [32, 33, 61, 32] U) = (sp, X)) := ⟨_, _, Lib.hid rfl⟩
      rw [HSX.out] at HR9 HSL ⊢
      simp only at HR9 HSL ⊢
      have HE := Lib.hid (rel_of HS1.out HM.out HG.out HSX.out)
      have d0 := HB9.out.cell (i := 0) rfl
      have d1 := HB9.out.cell (i := 1) rfl
      have d2 := HB9.out.cell (i := 2) rfl
      have y2 := HB9.out.thaw 2
      have a0 := HA9.out.cell (i := 0) rfl
      have a1 := HA9.out.cell (i := 1) rfl
      have a2 := HA9.out.cell (i := 2) rfl
      have x0 := HA9.out.thaw 0
      have x1 := HA9.out.thaw 1
      have x2 := HA9.out.thaw 2
      obtain ⟨n, HL⟩ : ∃ n, Hid (n = sp.length) := ⟨_, Lib.hid rfl⟩
      rw [← HL.out]
      have BB := (But.refl (w.heap.size + 1) w9).set 2 (.slice a n cap)
      have HQ9 := Lib.hid (HB9.out.set 2 (.slice a n cap))
      have HA10 := Lib.hid (BB.row HA9.out (by omega))
      have HF10 := Lib.hid (BB.fr HF9.out (by omega))
      have HR10 := Lib.hid (HR9.out.but BB (by omega))
      have HS10 := Lib.hid (HSL.out.kpt (KpT.of_but BB HB9.out (by decide)))
      clear BB HA9 HB9 HF9 HR9 HSL
      go_wp2
      have Q3 := HA10.out.put3 (.int .i64 (m : Int)) (.bool true) (.slice a n cap)
      have B3 := But.put3 w.heap.size (w9.setCell ⟨w.heap.size + 1, 2, none⟩ (.slice a n cap)) (.int .i64 (m : Int)) (.bool true) (.slice a n cap)
      have hsl := HS10.out.kpt (KpT.of_but B3 HA10.out (by decide))
      have hfr := B3.fr HF10.out (by omega)
      have hrd := HR10.out.but B3 (by omega)
      clear HS10 HF10 HR10 HA10
      generalize ((((w9.setCell ⟨w.heap.size + 1, 2, none⟩ (.slice a n cap)).setCell ⟨w.heap.size, 0, none⟩ (.int .i64 (m : Int))).setCell ⟨w.heap.size, 1, none⟩ (.bool true)).setCell ⟨w.heap.size, 2, none⟩ (.slice a n cap)) = w11 at *
      have e0 := Q3.cell (i := 0) rfl
      have e1 := Q3.cell (i := 1) rfl
      have e2 := Q3.cell (i := 2) rfl
      exact bodyPost_ret (v := .agg #[.int .i64 (m : Int), .bool true, .slice a n cap]) (by simp [results, Tryz.results93, go_sem, e0, e1, e2]) rfl (by rw [HE.out]; rw [HL.out]; exact ⟨a, cap, rfl, hsl, hrd, hfr⟩)
    | false =>
      have HG := Lib.hid (neg_no hb)
      clear hb
      have HWD : Hid (Calls Tryz.prog 77 #[.pointer (some ⟨rb, 0, none⟩), .string ⟨#[32, 61, 32]⟩] w6 fun e w' => e = .returned (.tuple #[]) ∧ RdAt w' rb s (wordF s.data.toList [32, 61, 32] U) ∧ Fr (· = rb) w6 w') := Lib.hid (word_any rb s ⟨#[32, 61, 32]⟩ U w6 hs (by decide) HL5.out HR6.out)
      have HGW := Lib.hid (ge_word s.data.toList [32, 61, 32] U)
      go_wp2_with fail
      refine HWD.out.mono ?_
      rintro e w7 ⟨rfl, hr, hf⟩
      have HA7 := Lib.hid (HA6.out.fr hf (by omega))
      have HB7 := Lib.hid (HB6.out.fr hf (by omega))
      have HF7 := Lib.hid (HF6.out.trans hf)
      have HL7 := Lib.hid (sz_of rfl HGW.out HL5.out)
      have HR7 := Lib.hid hr
      clear hr hf HWD HGW HA6 HB6 HF6 HR6
      have HB8 := HB7
      have HA8 := HA7
      have HF8 := HF7
      have HR8 := HR7
      have HSP := Lib.hid (spans_any rb s _ w7 hs HL7.out HR8.out)
      clear HA7 HB7 HF7 HR7
      go_wp2_with fail
      refine HSP.out.mono ?_
      rintro e w9 ⟨a, cap, rfl, hsl, hr, hf⟩
      have HA9 := Lib.hid (HA8.out.fr hf (by omega))
      have HB9 := Lib.hid (HB8.out.fr hf (by omega))
      have HF9 := Lib.hid (HF8.out.trans hf)
      have HR9 := Lib.hid hr
      have HSL := Lib.hid hsl
      clear hr hf hsl HSP HA8 HB8 HF8 HR8
      obtain ⟨sp, X, HSX⟩ : ∃ sp X, Hid (spansF s.data.toList (wordF s.data.toList [32, 61, 32] U) = (sp, X)) := ⟨_, _, Lib.hid rfl⟩
      rw [HSX.out] at HR9 HSL ⊢
      simp only at HR9 HSL ⊢
      have HE := Lib.hid (rel_of HS1.out HM.out HG.out HSX.out)
      have d0 := HB9.out.cell (i := 0) rfl
      have d1 := HB9.out.cell (i := 1) rfl
      have d2 := HB9.out.cell (i := 2) rfl
      have y2 := HB9.out.thaw 2
      have a0 := HA9.out.cell (i := 0) rfl
      have a1 := HA9.out.cell (i := 1) rfl
      have a2 := HA9.out.cell (i := 2) rfl
      have x0 := HA9.out.thaw 0
      have x1 := HA9.out.thaw 1
      have x2 := HA9.out.thaw 2
      obtain ⟨n, HL⟩ : ∃ n, Hid (n = sp.length) := ⟨_, Lib.hid rfl⟩
      rw [← HL.out]
      have BB := (But.refl (w.heap.size + 1) w9).set 2 (.slice a n cap)
      have HQ9 := Lib.hid (HB9.out.set 2 (.slice a n cap))
      have HA10 := Lib.hid (BB.row HA9.out (by omega))
      have HF10 := Lib.hid (BB.fr HF9.out (by omega))
      have HR10 := Lib.hid (HR9.out.but BB (by omega))
      have HS10 := Lib.hid (HSL.out.kpt (KpT.of_but BB HB9.out (by decide)))
      clear BB HA9 HB9 HF9 HR9 HSL
      go_wp2
      have Q3 := HA10.out.put3 (.int .i64 (m : Int)) (.bool false) (.slice a n cap)
      have B3 := But.put3 w.heap.size (w9.setCell ⟨w.heap.size + 1, 2, none⟩ (.slice a n cap)) (.int .i64 (m : Int)) (.bool false) (.slice a n cap)
      have hsl := HS10.out.kpt (KpT.of_but B3 HA10.out (by decide))
      have hfr := B3.fr HF10.out (by omega)
      have hrd := HR10.out.but B3 (by omega)
      clear HS10 HF10 HR10 HA10
      generalize ((((w9.setCell ⟨w.heap.size + 1, 2, none⟩ (.slice a n cap)).setCell ⟨w.heap.size, 0, none⟩ (.int .i64 (m : Int))).setCell ⟨w.heap.size, 1, none⟩ (.bool false)).setCell ⟨w.heap.size, 2, none⟩ (.slice a n cap)) = w11 at *
      have e0 := Q3.cell (i := 0) rfl
      have e1 := Q3.cell (i := 1) rfl
      have e2 := Q3.cell (i := 2) rfl
      exact bodyPost_ret (v := .agg #[.int .i64 (m : Int), .bool false, .slice a n cap]) (by simp [results, Tryz.results93, go_sem, e0, e1, e2]) rfl (by rw [HE.out]; rw [HL.out]; exact ⟨a, cap, rfl, hsl, hrd, hfr⟩)
  | false =>
    have HM := Lib.hid (mod_no hb)
    clear hb
    have HA5 := HA2
    have HB5 := HB2
    have HF5 := HF2
    have HR5 := HR2
    have HL5 := HL1
    have HN5 : Hid (Calls Tryz.prog 94 #[.pointer (some ⟨rb, 0, none⟩), .string ⟨#[32, 33]⟩] w2 fun e w' => e = .returned (.bool (nextF s.data.toList [32, 33] S1)) ∧ Same w2 w') := Lib.hid (next_any rb s ⟨#[32, 33]⟩ _ _ hs HL5.out HR5.out)
    go_wp2_with fail
    refine HN5.out.mono ?_
    rintro e w6 ⟨rfl, hw⟩
    have HA6 := Lib.hid (hw.row HA5.out)
    have HB6 := Lib.hid (hw.row HB5.out)
    have HF6 := Lib.hid (HF5.out.trans (Fr.of_same hw))
    have HR6 := Lib.hid (HR5.out.same hw)
    clear hw HN5 HA5 HB5 HF5 HR5
    cases hb : nextF s.data.toList [32, 33] S1 with
    | true =>
      have HG := Lib.hid (neg_yes hb)
      clear hb
      have HWD : Hid (Calls Tryz.prog 77 #[.pointer (some ⟨rb, 0, none⟩), .string ⟨#[32, 33, 61, 32]⟩] w6 fun e w' => e = .returned (.tuple #[]) ∧ RdAt w' rb s (wordF s.data.toList [32, 33, 61, 32] S1) ∧ Fr (· = rb) w6 w') := Lib.hid (word_any rb s ⟨#[32, 33, 61, 32]⟩ S1 w6 hs (by decide) HL5.out HR6.out)
      have HGW := Lib.hid (ge_word s.data.toList [32, 33, 61, 32] S1)
      go_wp2_with fail
      refine HWD.out.mono ?_
      rintro e w7 ⟨rfl, hr, hf⟩
      have HA7 := Lib.hid (HA6.out.fr hf (by omega))
      have HB7 := Lib.hid (HB6.out.fr hf (by omega))
      have HF7 := Lib.hid (HF6.out.trans hf)
      have HL7 := Lib.hid (sz_of rfl HGW.out HL5.out)
      have HR7 := Lib.hid hr
      clear hr hf HWD HGW HA6 HB6 HF6 HR6
      have d1 := HB7.out.cell (i := 1) rfl
      have z1 := HB7.out.thaw 1
      have HB8 := Lib.hid (HB7.out.set 1 (.bool true))
      have BB := (But.refl (w.heap.size + 1) w7).set 1 (.bool true)
      have HA8 := Lib.hid (BB.row HA7.out (by omega))
      have HF8 := Lib.hid (BB.fr HF7.out (by omega))
      have HR8 := Lib.hid (HR7.out.but BB (by omega))
      clear BB
      have HSP := Lib.hid (spans_any rb s _ (w7.setCell ⟨w.heap.size + 1, 1, none⟩ (.bool true)) hs HL7.out HR8.out)
      clear HA7 HB7 HF7 HR7
      go_wp2_with fail
      refine HSP.out.mono ?_
      rintro e w9 ⟨a, cap, rfl, hsl, hr, hf⟩
      have HA9 := Lib.hid (HA8.out.fr hf (by omega))
      have HB9 := Lib.hid (HB8.out.fr hf (by omega))
      have HF9 := Lib.hid (HF8.out.trans hf)
      have HR9 := Lib.hid hr
      have HSL := Lib.hid hsl
      clear hr hf hsl HSP HA8 HB8 HF8 HR8
      obtain ⟨sp, X, HSX⟩ : ∃ sp X, Hid (spansF s.data.toList (wordF s.data.toList [32, 33, 61, 32] S1) = (sp, X)) := ⟨_, _, Lib.hid rfl⟩
      rw [HSX.out] at HR9 HSL ⊢
      simp only at HR9 HSL ⊢
      have HE := Lib.hid (rel_of HS1.out HM.out HG.out HSX.out)
      have d0 := HB9.out.cell (i := 0) rfl
      have d1 := HB9.out.cell (i := 1) rfl
      have d2 := HB9.out.cell (i := 2) rfl
      have y2 := HB9.out.thaw 2
      have a0 := HA9.out.cell (i := 0) rfl
      have a1 := HA9.out.cell (i := 1) rfl
      have a2 := HA9.out.cell (i := 2) rfl
      have x0 := HA9.out.thaw 0
      have x1 := HA9.out.thaw 1
      have x2 := HA9.out.thaw 2
      obtain ⟨n, HL⟩ : ∃ n, Hid (n = sp.length) := ⟨_, Lib.hid rfl⟩
      rw [← HL.out]
      have BB := (But.refl (w.heap.size + 1) w9).set 2 (.slice a n cap)
      have HQ9 := Lib.hid (HB9.out.set 2 (.slice a n cap))
      have HA10 := Lib.hid (BB.row HA9.out (by omega))
      have HF10 := Lib.hid (BB.fr HF9.out (by omega))
      have HR10 := Lib.hid (HR9.out.but BB (by omega))
      have HS10 := Lib.hid (HSL.out.kpt (KpT.of_but BB HB9.out (by decide)))
      clear BB HA9 HB9 HF9 HR9 HSL
      go_wp2
      have Q3 := HA10.out.put3 (.int .i64 0) (.bool true) (.slice a n cap)
      have B3 := But.put3 w.heap.size (w9.setCell ⟨w.heap.size + 1, 2, none⟩ (.slice a n cap)) (.int .i64 0) (.bool true) (.slice a n cap)
      have hsl := HS10.out.kpt (KpT.of_but B3 HA10.out (by decide))
      have hfr := B3.fr HF10.out (by omega)
      have hrd := HR10.out.but B3 (by omega)
      clear HS10 HF10 HR10 HA10
      generalize ((((w9.setCell ⟨w.heap.size + 1, 2, none⟩ (.slice a n cap)).setCell ⟨w.heap.size, 0, none⟩ (.int .i64 0)).setCell ⟨w.heap.size, 1, none⟩ (.bool true)).setCell ⟨w.heap.size, 2, none⟩ (.slice a n cap)) = w11 at *
      have e0 := Q3.cell (i := 0) rfl
      have e1 := Q3.cell (i := 1) rfl
      have e2 := Q3.cell (i := 2) rfl
      exact bodyPost_ret (v := .agg #[.int .i64 0, .bool true, .slice a n cap]) (by simp [results, Tryz.results93, go_sem, e0, e1, e2]) rfl (by rw [HE.out]; rw [HL.out]; exact ⟨a, cap, rfl, hsl, hrd, hfr⟩)
    | false =>
      have HG := Lib.hid (neg_no hb)
      clear hb
      have HWD : Hid (Calls Tryz.prog 77 #[.pointer (some ⟨rb, 0, none⟩), .string ⟨#[32, 61, 32]⟩] w6 fun e w' => e = .returned (.tuple #[]) ∧ RdAt w' rb s (wordF s.data.toList [32, 61, 32] S1) ∧ Fr (· = rb) w6 w') := Lib.hid (word_any rb s ⟨#[32, 61, 32]⟩ S1 w6 hs (by decide) HL5.out HR6.out)
      have HGW := Lib.hid (ge_word s.data.toList [32, 61, 32] S1)
      go_wp2_with fail
      refine HWD.out.mono ?_
      rintro e w7 ⟨rfl, hr, hf⟩
      have HA7 := Lib.hid (HA6.out.fr hf (by omega))
      have HB7 := Lib.hid (HB6.out.fr hf (by omega))
      have HF7 := Lib.hid (HF6.out.trans hf)
      have HL7 := Lib.hid (sz_of rfl HGW.out HL5.out)
      have HR7 := Lib.hid hr
      clear hr hf HWD HGW HA6 HB6 HF6 HR6
      have HB8 := HB7
      have HA8 := HA7
      have HF8 := HF7
      have HR8 := HR7
      have HSP := Lib.hid (spans_any rb s _ w7 hs HL7.out HR8.out)
      clear HA7 HB7 HF7 HR7
      go_wp2_with fail
      refine HSP.out.mono ?_
      rintro e w9 ⟨a, cap, rfl, hsl, hr, hf⟩
      have HA9 := Lib.hid (HA8.out.fr hf (by omega))
      have HB9 := Lib.hid (HB8.out.fr hf (by omega))
      have HF9 := Lib.hid (HF8.out.trans hf)
      have HR9 := Lib.hid hr
      have HSL := Lib.hid hsl
      clear hr hf hsl HSP HA8 HB8 HF8 HR8
      obtain ⟨sp, X, HSX⟩ : ∃ sp X, Hid (spansF s.data.toList (wordF s.data.toList [32, 61, 32] S1) = (sp, X)) := ⟨_, _, Lib.hid rfl⟩
      rw [HSX.out] at HR9 HSL ⊢
      simp only at HR9 HSL ⊢
      have HE := Lib.hid (rel_of HS1.out HM.out HG.out HSX.out)
      have d0 := HB9.out.cell (i := 0) rfl
      have d1 := HB9.out.cell (i := 1) rfl
      have d2 := HB9.out.cell (i := 2) rfl
      have y2 := HB9.out.thaw 2
      have a0 := HA9.out.cell (i := 0) rfl
      have a1 := HA9.out.cell (i := 1) rfl
      have a2 := HA9.out.cell (i := 2) rfl
      have x0 := HA9.out.thaw 0
      have x1 := HA9.out.thaw 1
      have x2 := HA9.out.thaw 2
      obtain ⟨n, HL⟩ : ∃ n, Hid (n = sp.length) := ⟨_, Lib.hid rfl⟩
      rw [← HL.out]
      have BB := (But.refl (w.heap.size + 1) w9).set 2 (.slice a n cap)
      have HQ9 := Lib.hid (HB9.out.set 2 (.slice a n cap))
      have HA10 := Lib.hid (BB.row HA9.out (by omega))
      have HF10 := Lib.hid (BB.fr HF9.out (by omega))
      have HR10 := Lib.hid (HR9.out.but BB (by omega))
      have HS10 := Lib.hid (HSL.out.kpt (KpT.of_but BB HB9.out (by decide)))
      clear BB HA9 HB9 HF9 HR9 HSL
      go_wp2
      have Q3 := HA10.out.put3 (.int .i64 0) (.bool false) (.slice a n cap)
      have B3 := But.put3 w.heap.size (w9.setCell ⟨w.heap.size + 1, 2, none⟩ (.slice a n cap)) (.int .i64 0) (.bool false) (.slice a n cap)
      have hsl := HS10.out.kpt (KpT.of_but B3 HA10.out (by decide))
      have hfr := B3.fr HF10.out (by omega)
      have hrd := HR10.out.but B3 (by omega)
      clear HS10 HF10 HR10 HA10
      generalize ((((w9.setCell ⟨w.heap.size + 1, 2, none⟩ (.slice a n cap)).setCell ⟨w.heap.size, 0, none⟩ (.int .i64 0)).setCell ⟨w.heap.size, 1, none⟩ (.bool false)).setCell ⟨w.heap.size, 2, none⟩ (.slice a n cap)) = w11 at *
      have e0 := Q3.cell (i := 0) rfl
      have e1 := Q3.cell (i := 1) rfl
      have e2 := Q3.cell (i := 2) rfl
      exact bodyPost_ret (v := .agg #[.int .i64 0, .bool false, .slice a n cap]) (by simp [results, Tryz.results93, go_sem, e0, e1, e2]) rfl (by rw [HE.out]; rw [HL.out]; exact ⟨a, cap, rfl, hsl, hrd, hfr⟩)
end Go.Proofs.YtlmaafmhadbiaaaGreatDoor.Pu
