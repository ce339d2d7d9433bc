/- The reader: what the recursive functions tell; a placeholder. -/
import Derived.Test.YtapnieogfddjkaaDoorRd5
namespace Go.Proofs.YtapnieogfddjkaaDoor
open Go.RowKit

theorem Row.put4 {w : World} {b : Nat} {t : TypeId} {x0 x1 x2 x3 : Value} (h : Row w b t [x0, x1, x2, x3]) (a c d e : Value) : Row ((((w.setCell ⟨b, 0, none⟩ a).setCell ⟨b, 1, none⟩ c).setCell ⟨b, 2, none⟩ d).setCell ⟨b, 3, none⟩ e) b t [a, c, d, e] := (((h.set 0 a).set 1 c).set 2 d).set 3 e
theorem Row.put2 {w : World} {b : Nat} {t : TypeId} {x0 x1 : Value} (h : Row w b t [x0, x1]) (a c : Value) : Row ((w.setCell ⟨b, 0, none⟩ a).setCell ⟨b, 1, none⟩ c) b t [a, c] := (h.set 0 a).set 1 c
theorem But.put4 (g : Nat) (w : World) (a b c d : Value) : But g w ((((w.setCell ⟨g, 0, none⟩ a).setCell ⟨g, 1, none⟩ b).setCell ⟨g, 2, none⟩ c).setCell ⟨g, 3, none⟩ d) := ((((But.refl g w).set 0 a).set 1 b).set 2 c).set 3 d
theorem But.put2 (g : Nat) (w : World) (a b : Value) : But g w ((w.setCell ⟨g, 0, none⟩ a).setCell ⟨g, 1, none⟩ b) := ((But.refl g w).set 0 a).set 1 b
theorem But.fr {g : Nat} {w w1 w' : World} {X : Nat → Prop} (h : Fr X w w1) (k : But g w1 w') (hg : w.heap.size ≤ g) : Fr X w w' :=
  ⟨k.os.trans h.os, k.tape.trans h.tape, k.output.trans h.output, by rw [k.size]; exact h.size, fun i hi hx => (k.block i (by omega)).trans (h.block i hi hx)⟩
theorem Row.fr {w w' : World} {b rb : Nat} {t : TypeId} {cs : List Value} (h : Row w b t cs) (hf : Fr (· = rb) w w') (hb : b ≠ rb) : Row w' b t cs := h.keep (hf.block b h.lt hb)
theorem RdAt.but {w w' : World} {rb g : Nat} {s : BA} {o : Nat} {S : St} (h : RdAt w rb s o S) (k : But g w w') (hg : rb ≠ g) : RdAt w' rb s o S := h.keep (k.block rb hg)
theorem SlC.fsh {w1 w2 : World} {B B2 n : Nat} {v : Value} {xs : List Cs} (h : SlC w1 (Fsh B2 w1) n v xs) (hk : ∀ b, B2 ≤ b → b < w1.heap.size → w2.heap[b]? = w1.heap[b]?) (hB : B ≤ B2) (hz : w1.heap.size ≤ w2.heap.size) : SlC w2 (Fsh B w2) n v xs :=
  h.keep (fun b hb => hk b hb.1 hb.2) (fun b hb => ⟨by omega, by omega⟩)
theorem SlP.fsh {w1 w2 : World} {B B2 n : Nat} {v : Value} {xs : List Pt} (h : SlP w1 (Fsh B2 w1) n v xs) (hk : ∀ b, B2 ≤ b → b < w1.heap.size → w2.heap[b]? = w1.heap[b]?) (hB : B ≤ B2) (hz : w1.heap.size ≤ w2.heap.size) : SlP w2 (Fsh B w2) n v xs :=
  h.keep (fun b hb => hk b hb.1 hb.2) (fun b hb => ⟨by omega, by omega⟩)

/-- What reading cases tells. -/
def CasesPost (rb : Nat) (s : BA) (o : Nat) (w : World) (r : List Cs × St) (e : Ending) (w' : World) : Prop :=
  ∃ a cap n, e = .returned (.slice a r.1.length cap) ∧ SlC w' (Fsh w.heap.size w') n (.slice a r.1.length cap) r.1 ∧ RdAt w' rb s o r.2 ∧ Fr (· = rb) w w'
/-- What reading parts tells. -/
def PartsPost (rb : Nat) (s : BA) (o : Nat) (w : World) (r : List Pt × St) (e : Ending) (w' : World) : Prop :=
  ∃ a cap n, e = .returned (.slice a r.1.length cap) ∧ SlP w' (Fsh w.heap.size w') n (.slice a r.1.length cap) r.1 ∧ RdAt w' rb s o r.2 ∧ Fr (· = rb) w w'
/-- What reading a part tells. -/
def PartPost (rb : Nat) (s : BA) (o : Nat) (w : World) (r : Pt × St) (e : Ending) (w' : World) : Prop :=
  ∃ v n, e = .returned (.agg #[.int .i64 r.1.k, .string r.1.t, .string r.1.n, v]) ∧ SlC w' (Fsh w.heap.size w') n v r.1.cs ∧ RdAt w' rb s o r.2 ∧ Fr (· = rb) w w'
/-- What reading a case tells. -/
def CasePost (rb : Nat) (s : BA) (o : Nat) (w : World) (r : Cs × St) (e : Ending) (w' : World) : Prop :=
  ∃ v n, e = .returned (.agg #[.string r.1.key, v]) ∧ SlP w' (Fsh w.heap.size w') n v r.1.kids ∧ RdAt w' rb s o r.2 ∧ Fr (· = rb) w w'
def CasesOK (f : Nat) : Prop := ∀ (h : Bool) (o rb : Nat) (s : BA) (S : St) (w : World), s.size ≤ 2000 → o + f ≤ 4000 → Wf s.data.toList S → ((oneF s.data.toList [32] S).2.2 = 0 → s.size - (oneF s.data.toList [32] S).2.1 < f) → RdAt w rb s o S → Env w rb →
  Calls Tryd.prog 53 #[.pointer (some ⟨rb, 0, none⟩), .bool h] w (CasesPost rb s o w (casesL s.data.toList f h o [] (oneF s.data.toList [32] S)))
def PartsOK (f : Nat) : Prop := ∀ (h : Bool) (o rb : Nat) (s : BA) (S : St) (w : World), s.size ≤ 2000 → o + f ≤ 4000 → Wf s.data.toList S → (S.2 = 0 → s.size - S.1 < f) → RdAt w rb s o S → Env w rb →
  Calls Tryd.prog 12 #[.pointer (some ⟨rb, 0, none⟩), .bool h] w (PartsPost rb s o w (partsL s.data.toList f h o [] S))

theorem hole_sel {l : List UInt8} {cf : Bool → List UInt8 × St → List Cs × St} {h : Bool} {S : St} {a : List UInt8 × St} (ha : longF l nameB (wordF l [123] S) = a) (hs : nextF l [44, 32, 115] a.2 = true) :
    holeG l cf h S = (.mk 5 (ba []) (ba a.1) (cf h (oneF l [32] (wordF l seW a.2))).1, (cf h (oneF l [32] (wordF l seW a.2))).2) := by
  unfold holeG; simp only; rw [ha, if_pos hs]
theorem hole_plu {l : List UInt8} {cf : Bool → List UInt8 × St → List Cs × St} {h : Bool} {S : St} {a : List UInt8 × St} (ha : longF l nameB (wordF l [123] S) = a) (hs : nextF l [44, 32, 115] a.2 = false) (hp : nextF l [44] a.2 = true) :
    holeG l cf h S = (.mk 4 (ba []) (ba a.1) (cf true (oneF l [32] (wordF l plW a.2))).1, (cf true (oneF l [32] (wordF l plW a.2))).2) := by
  unfold holeG; simp only; rw [ha, if_neg (by rw [hs]; simp), if_pos hp]
theorem hole_arg {l : List UInt8} {cf : Bool → List UInt8 × St → List Cs × St} {h : Bool} {S : St} {a : List UInt8 × St} (ha : longF l nameB (wordF l [123] S) = a) (hs : nextF l [44, 32, 115] a.2 = false) (hp : nextF l [44] a.2 = false) :
    holeG l cf h S = (.mk 2 (ba []) (ba a.1) [], wordF l [125] a.2) := by
  unfold holeG; simp only; rw [ha, if_neg (by rw [hs]; simp), if_neg (by rw [hp]; simp)]

set_option maxHeartbeats 3200000 in
set_option maxRecDepth 100000 in
theorem hole_any (f : Nat) (HC : CasesOK f) (h : Bool) (o rb : Nat) (s : BA) (S : St) (w : World) (hs : s.size ≤ 2000) (ho : o + f ≤ 4000) (hS : Wf s.data.toList S) (hn : nextF s.data.toList [123] S = true) (hf : s.size - S.1 < f + 1) (hR : RdAt w rb s o S) (hE : Env w rb) :
    Calls Tryd.prog 38 #[.pointer (some ⟨rb, 0, none⟩), .bool h] w (PartPost rb s o w (holeG s.data.toList (fun h b => casesL s.data.toList f h o [] b) h S)) := by
  have hlr := hR.lt
  have HQ0 : Hid (Row (w.alloc (.cells #[.int .i64 0, .string ⟨#[]⟩, .string ⟨#[]⟩, .slice none 0 0] 42)) w.heap.size 42 [.int .i64 0, .string ⟨#[]⟩, .string ⟨#[]⟩, .slice none 0 0]) := Lib.hid (row_new w #[.int .i64 0, .string ⟨#[]⟩, .string ⟨#[]⟩, .slice none 0 0] 42)
  have HR0 : Hid (RdAt (w.alloc (.cells #[.int .i64 0, .string ⟨#[]⟩, .string ⟨#[]⟩, .slice none 0 0] 42)) rb s o S) := Lib.hid (hR.alloc _)
  have HE0 : Hid (Env (w.alloc (.cells #[.int .i64 0, .string ⟨#[]⟩, .string ⟨#[]⟩, .slice none 0 0] 42)) rb) := Lib.hid (hE.below (below1 _ _))
  have HF0 : Hid (Fr (· = rb) w (w.alloc (.cells #[.int .i64 0, .string ⟨#[]⟩, .string ⟨#[]⟩, .slice none 0 0] 42))) := Lib.hid ((Fr.refl _ _).alloc _)
  have HWD : Hid (Calls Tryd.prog 39 #[.pointer (some ⟨rb, 0, none⟩), .string ⟨#[123]⟩] (w.alloc (.cells #[.int .i64 0, .string ⟨#[]⟩, .string ⟨#[]⟩, .slice none 0 0] 42)) _) := Lib.hid (word_any rb s ⟨#[123]⟩ o S _ hs (by decide) hS HR0.out)
  have HS1 := Lib.hid (ge_wf (ge_word s.data.toList [123] S) hS)
  have hadv : S.1 + 1 ≤ (wordF s.data.toList [123] S).1 := by rw [word_yes hn]; exact (ge_word _ [] (S.1 + 1, 0)).1
  have hlt := get_lt (next_iff.1 hn).2
  rw [len_list] at hlt
  clear hR hE hn
  go_enter Tryd.func38, Tryd.ntmps38
  go_wp2_with fail
  generalize w.alloc (.cells #[.int .i64 0, .string ⟨#[]⟩, .string ⟨#[]⟩, .slice none 0 0] 42) = w1 at *
  refine HWD.out.mono ?_
  rintro e w2 ⟨rfl, hr2, hf2⟩
  try rw [show ((⟨#[123]⟩ : BA).data.toList) = [123] from rfl] at hr2
  have HQ2 := Lib.hid (HQ0.out.fr hf2 (by omega))
  have HE2 := Lib.hid (HE0.out.fr hf2)
  have HF2 := Lib.hid (HF0.out.trans hf2)
  have HL := Lib.hid (longName_any rb s o _ w2 hs HS1.out hr2 HE2.out)
  have HG := Lib.hid (ge_long s.data.toList nameB (wordF s.data.toList [123] S))
  clear hr2 hf2 HWD HQ0 HR0 HE0 HF0
  obtain ⟨A, HA⟩ : ∃ A, Hid (longF s.data.toList nameB (wordF s.data.toList [123] S) = A) := ⟨_, Lib.hid rfl⟩
  rw [HA.out] at HL HG
  obtain ⟨nm, U⟩ := A
  simp only at HL HG
  go_wp2_with fail
  refine HL.out.mono ?_
  rintro e w3 ⟨rfl, hr3, hf3⟩
  have HQ3 := Lib.hid (HQ2.out.fr hf3 (by omega))
  have HE3 := Lib.hid (HE2.out.fr hf3)
  have HF3 := Lib.hid (HF2.out.trans hf3)
  have HR3 := Lib.hid hr3
  have HSU := Lib.hid (ge_wf HG.out HS1.out)
  have HN1 : Hid (Calls Tryd.prog 23 #[.pointer (some ⟨rb, 0, none⟩), .string ⟨#[44, 32, 115]⟩] w3 fun e w' => e = .returned (.bool (nextF s.data.toList [44, 32, 115] U)) ∧ Same w3 w') := Lib.hid (next_any rb s ⟨#[44, 32, 115]⟩ o U w3 hs HSU.out (by decide) hr3)
  have hgU := HG.out.1
  clear hr3 hf3 HL HQ2 HE2 HF2
  have hex : ByteArray.extract ⟨#[44, 32, 115, 101, 108, 101, 99, 116, 44]⟩ 0 3 = ⟨#[44, 32, 115]⟩ := by decide
  cases hb1 : nextF s.data.toList [44, 32, 115] U with
  | true =>
    rw [hb1] at HN1
    have HK := Lib.hid (hole_sel (cf := fun h b => casesL s.data.toList f h o [] b) (h := h) HA.out hb1)
    go_wp2_with fail
    refine HN1.out.mono ?_
    rintro e w4 ⟨rfl, hw4⟩
    clear hb1
    have HR4 := Lib.hid (HR3.out.same hw4)
    have HQ4 := Lib.hid (hw4.row HQ3.out)
    have HE4 := Lib.hid (HE3.out.same hw4)
    have HF4 := Lib.hid (HF3.out.trans (Fr.of_same hw4))
    have HWD : Hid (Calls Tryd.prog 39 #[.pointer (some ⟨rb, 0, none⟩), .string ⟨#[44, 32, 115, 101, 108, 101, 99, 116, 44]⟩] w4 fun e w' => e = .returned (.tuple #[]) ∧ RdAt w' rb s o (wordF s.data.toList seW U) ∧ Fr (· = rb) w4 w') := Lib.hid (word_any rb s ⟨#[44, 32, 115, 101, 108, 101, 99, 116, 44]⟩ o U w4 hs (by decide) HSU.out HR4.out)
    have HGW := Lib.hid (ge_word s.data.toList seW U)
    clear hw4 HN1 HR3 HQ3 HE3 HF3 HR4
    go_wp2_with fail
    refine HWD.out.mono ?_
    rintro e w5 ⟨rfl, hr5, hf5⟩
    have HQ5 := Lib.hid (HQ4.out.fr hf5 (by omega))
    have HE5 := Lib.hid (HE4.out.fr hf5)
    have HF5 := Lib.hid (HF4.out.trans hf5)
    have HS5 := Lib.hid (ge_wf HGW.out HSU.out)
    have hgw := HGW.out.1
    have HCC : Hid (Calls Tryd.prog 53 #[.pointer (some ⟨rb, 0, none⟩), .bool h] w5 _) := Lib.hid (HC h o rb s _ w5 hs ho HS5.out (fun e => by have := one_adv e; omega) hr5 HE5.out)
    clear hr5 hf5 HWD HQ4 HE4 HF4
    generalize casesL s.data.toList f h o [] (oneF s.data.toList [32] (wordF s.data.toList seW U)) = r at *
    obtain ⟨cs, V⟩ := r
    go_wp2_with fail
    refine HCC.out.mono ?_
    rintro e w6 ⟨a, cap, n, rfl, hsl, hr6, hf6⟩
    have HSL := Lib.hid hsl
    have HR6 := Lib.hid hr6
    have HQ6 := Lib.hid (HQ5.out.fr hf6 (by omega))
    have HF6 := Lib.hid (HF5.out.trans hf6)
    have HZ : Hid (w.heap.size < w5.heap.size) := Lib.hid HQ5.out.lt
    clear hsl hr6 hf6 HCC HQ5 HE5 HF5
    simp only at HSL HR6
    obtain ⟨ln, HLN⟩ : ∃ ln, Hid (ln = cs.length) := ⟨_, Lib.hid rfl⟩
    rw [← HLN.out]
    have q0 := HQ6.out.cell (i := 0) rfl
    have q1 := HQ6.out.cell (i := 1) rfl
    have q2 := HQ6.out.cell (i := 2) rfl
    have q3 := HQ6.out.cell (i := 3) rfl
    have y0 := HQ6.out.thaw 0
    have y1 := HQ6.out.thaw 1
    have y2 := HQ6.out.thaw 2
    have y3 := HQ6.out.thaw 3
    go_wp2
    have Q7 := HQ6.out.put4 (.int .i64 5) (.string ⟨#[]⟩) (.string (ba nm)) (.slice a ln cap)
    have B7 := But.put4 w.heap.size w6 (.int .i64 5) (.string ⟨#[]⟩) (.string (ba nm)) (.slice a ln cap)
    generalize (((w6.setCell ⟨w.heap.size, 0, none⟩ (.int .i64 5)).setCell ⟨w.heap.size, 1, none⟩ (.string ⟨#[]⟩)).setCell ⟨w.heap.size, 2, none⟩ (.string (ba nm))).setCell ⟨w.heap.size, 3, none⟩ (.slice a ln cap) = w7 at *
    have e0 := Q7.cell (i := 0) rfl
    have e1 := Q7.cell (i := 1) rfl
    have e2 := Q7.cell (i := 2) rfl
    have e3 := Q7.cell (i := 3) rfl
    have hz := HZ.out
    exact bodyPost_ret (v := .agg #[.int .i64 5, .string ⟨#[]⟩, .string (ba nm), .slice a ln cap]) (by simp [results, Tryd.results38, go_sem, e0, e1, e2, e3]) rfl (by
      rw [HK.out, HLN.out]
      exact ⟨_, n, rfl, HSL.out.fsh (fun b hb _ => B7.block b (by omega)) (by omega) (by rw [B7.size]; exact Nat.le_refl _), HR6.out.but B7 (by omega), But.fr HF6.out B7 (Nat.le_refl _)⟩)
  | false =>
    rw [hb1] at HN1
    cases hb2 : nextF s.data.toList [44] U with
    | true =>
      have HK := Lib.hid (hole_plu (cf := fun h b => casesL s.data.toList f h o [] b) (h := h) HA.out hb1 hb2)
      go_wp2_with fail
      refine HN1.out.mono ?_
      rintro e w4 ⟨rfl, hw4⟩
      have HN2 : Hid (Calls Tryd.prog 23 #[.pointer (some ⟨rb, 0, none⟩), .string ⟨#[44]⟩] w4 fun e w' => e = .returned (.bool (nextF s.data.toList [44] U)) ∧ Same w4 w') := Lib.hid (next_any rb s ⟨#[44]⟩ o U w4 hs HSU.out (by decide) (HR3.out.same hw4))
      rw [hb2] at HN2
      have HR3 := Lib.hid (HR3.out.same hw4)
      have HQ3 := Lib.hid (hw4.row HQ3.out)
      have HE3 := Lib.hid (HE3.out.same hw4)
      have HF3 := Lib.hid (HF3.out.trans (Fr.of_same hw4))
      clear hw4 HN1 hb1 hb2
      go_wp2_with fail
      refine HN2.out.mono ?_
      rintro e w4 ⟨rfl, hw4⟩
      have HN1 := 0
      have HR4 := Lib.hid (HR3.out.same hw4)
      have HQ4 := Lib.hid (hw4.row HQ3.out)
      have HE4 := Lib.hid (HE3.out.same hw4)
      have HF4 := Lib.hid (HF3.out.trans (Fr.of_same hw4))
      have HWD : Hid (Calls Tryd.prog 39 #[.pointer (some ⟨rb, 0, none⟩), .string ⟨#[44, 32, 112, 108, 117, 114, 97, 108, 44]⟩] w4 fun e w' => e = .returned (.tuple #[]) ∧ RdAt w' rb s o (wordF s.data.toList plW U) ∧ Fr (· = rb) w4 w') := Lib.hid (word_any rb s ⟨#[44, 32, 112, 108, 117, 114, 97, 108, 44]⟩ o U w4 hs (by decide) HSU.out HR4.out)
      have HGW := Lib.hid (ge_word s.data.toList plW U)
      clear hw4 HN1 HR3 HQ3 HE3 HF3 HR4
      go_wp2_with fail
      refine HWD.out.mono ?_
      rintro e w5 ⟨rfl, hr5, hf5⟩
      have HQ5 := Lib.hid (HQ4.out.fr hf5 (by omega))
      have HE5 := Lib.hid (HE4.out.fr hf5)
      have HF5 := Lib.hid (HF4.out.trans hf5)
      have HS5 := Lib.hid (ge_wf HGW.out HSU.out)
      have hgw := HGW.out.1
      have HCC : Hid (Calls Tryd.prog 53 #[.pointer (some ⟨rb, 0, none⟩), .bool true] w5 _) := Lib.hid (HC true o rb s _ w5 hs ho HS5.out (fun e => by have := one_adv e; omega) hr5 HE5.out)
      clear hr5 hf5 HWD HQ4 HE4 HF4
      generalize casesL s.data.toList f true o [] (oneF s.data.toList [32] (wordF s.data.toList plW U)) = r at *
      obtain ⟨cs, V⟩ := r
      go_wp2_with fail
      refine HCC.out.mono ?_
      rintro e w6 ⟨a, cap, n, rfl, hsl, hr6, hf6⟩
      have HSL := Lib.hid hsl
      have HR6 := Lib.hid hr6
      have HQ6 := Lib.hid (HQ5.out.fr hf6 (by omega))
      have HF6 := Lib.hid (HF5.out.trans hf6)
      have HZ : Hid (w.heap.size < w5.heap.size) := Lib.hid HQ5.out.lt
      clear hsl hr6 hf6 HCC HQ5 HE5 HF5
      simp only at HSL HR6
      obtain ⟨ln, HLN⟩ : ∃ ln, Hid (ln = cs.length) := ⟨_, Lib.hid rfl⟩
      rw [← HLN.out]
      have q0 := HQ6.out.cell (i := 0) rfl
      have q1 := HQ6.out.cell (i := 1) rfl
      have q2 := HQ6.out.cell (i := 2) rfl
      have q3 := HQ6.out.cell (i := 3) rfl
      have y0 := HQ6.out.thaw 0
      have y1 := HQ6.out.thaw 1
      have y2 := HQ6.out.thaw 2
      have y3 := HQ6.out.thaw 3
      go_wp2
      have Q7 := HQ6.out.put4 (.int .i64 4) (.string ⟨#[]⟩) (.string (ba nm)) (.slice a ln cap)
      have B7 := But.put4 w.heap.size w6 (.int .i64 4) (.string ⟨#[]⟩) (.string (ba nm)) (.slice a ln cap)
      generalize (((w6.setCell ⟨w.heap.size, 0, none⟩ (.int .i64 4)).setCell ⟨w.heap.size, 1, none⟩ (.string ⟨#[]⟩)).setCell ⟨w.heap.size, 2, none⟩ (.string (ba nm))).setCell ⟨w.heap.size, 3, none⟩ (.slice a ln cap) = w7 at *
      have e0 := Q7.cell (i := 0) rfl
      have e1 := Q7.cell (i := 1) rfl
      have e2 := Q7.cell (i := 2) rfl
      have e3 := Q7.cell (i := 3) rfl
      have hz := HZ.out
      exact bodyPost_ret (v := .agg #[.int .i64 4, .string ⟨#[]⟩, .string (ba nm), .slice a ln cap]) (by simp [results, Tryd.results38, go_sem, e0, e1, e2, e3]) rfl (by
        rw [HK.out, HLN.out]
        exact ⟨_, n, rfl, HSL.out.fsh (fun b hb _ => B7.block b (by omega)) (by omega) (by rw [B7.size]; exact Nat.le_refl _), HR6.out.but B7 (by omega), But.fr HF6.out B7 (Nat.le_refl _)⟩)
    | false =>
      have HK := Lib.hid (hole_arg (cf := fun h b => casesL s.data.toList f h o [] b) (h := h) HA.out hb1 hb2)
      go_wp2_with fail
      refine HN1.out.mono ?_
      rintro e w4 ⟨rfl, hw4⟩
      have HN2 : Hid (Calls Tryd.prog 23 #[.pointer (some ⟨rb, 0, none⟩), .string ⟨#[44]⟩] w4 fun e w' => e = .returned (.bool (nextF s.data.toList [44] U)) ∧ Same w4 w') := Lib.hid (next_any rb s ⟨#[44]⟩ o U w4 hs HSU.out (by decide) (HR3.out.same hw4))
      rw [hb2] at HN2
      have HR4 := Lib.hid (HR3.out.same hw4)
      have HQ4 := Lib.hid (hw4.row HQ3.out)
      have HF4 := Lib.hid (HF3.out.trans (Fr.of_same hw4))
      clear hw4 HN1 hb1 hb2 HR3 HQ3 HE3 HF3
      go_wp2_with fail
      refine HN2.out.mono ?_
      rintro e w5 ⟨rfl, hw5⟩
      have HR5 := Lib.hid (HR4.out.same hw5)
      have HQ5 := Lib.hid (hw5.row HQ4.out)
      have HF5 := Lib.hid (HF4.out.trans (Fr.of_same hw5))
      clear hw5 HN2 HR4 HQ4 HF4
      have HWD : Hid (Calls Tryd.prog 39 #[.pointer (some ⟨rb, 0, none⟩), .string ⟨#[125]⟩] w5 fun e w' => e = .returned (.tuple #[]) ∧ RdAt w' rb s o (wordF s.data.toList [125] U) ∧ Fr (· = rb) w5 w') := Lib.hid (word_any rb s ⟨#[125]⟩ o U w5 hs (by decide) HSU.out HR5.out)
      go_wp2_with fail
      refine HWD.out.mono ?_
      rintro e w6 ⟨rfl, hr6, hf6⟩
      have HR6 := Lib.hid hr6
      have HQ6 := Lib.hid (HQ5.out.fr hf6 (by omega))
      have HF6 := Lib.hid (HF5.out.trans hf6)
      clear hr6 hf6 HWD HQ5 HF5 HR5
      have q0 := HQ6.out.cell (i := 0) rfl
      have q1 := HQ6.out.cell (i := 1) rfl
      have q2 := HQ6.out.cell (i := 2) rfl
      have q3 := HQ6.out.cell (i := 3) rfl
      have y0 := HQ6.out.thaw 0
      have y1 := HQ6.out.thaw 1
      have y2 := HQ6.out.thaw 2
      have y3 := HQ6.out.thaw 3
      go_wp2
      have Q7 := HQ6.out.put4 (.int .i64 2) (.string ⟨#[]⟩) (.string (ba nm)) (.slice none 0 0)
      have B7 := But.put4 w.heap.size w6 (.int .i64 2) (.string ⟨#[]⟩) (.string (ba nm)) (.slice none 0 0)
      generalize (((w6.setCell ⟨w.heap.size, 0, none⟩ (.int .i64 2)).setCell ⟨w.heap.size, 1, none⟩ (.string ⟨#[]⟩)).setCell ⟨w.heap.size, 2, none⟩ (.string (ba nm))).setCell ⟨w.heap.size, 3, none⟩ (.slice none 0 0) = w7 at *
      have e0 := Q7.cell (i := 0) rfl
      have e1 := Q7.cell (i := 1) rfl
      have e2 := Q7.cell (i := 2) rfl
      have e3 := Q7.cell (i := 3) rfl
      exact bodyPost_ret (v := .agg #[.int .i64 2, .string ⟨#[]⟩, .string (ba nm), .slice none 0 0]) (by simp [results, Tryd.results38, go_sem, e0, e1, e2, e3]) rfl (by
        rw [HK.out]
        exact ⟨_, 0, rfl, Sl.nil _ _ _ _, HR6.out.but B7 (by omega), But.fr HF6.out B7 (Nat.le_refl _)⟩)
end Go.Proofs.YtapnieogfddjkaaDoor
