/- The reader: what the recursive functions tell; a placeholder. -/
import Derived.Test.YtdkkkeoicekdgaaGreatDoorZAg15

section

namespace Go.Proofs.YtdkkkeoicekdgaaGreatDoor
set_option maxHeartbeats 3200000
set_option maxRecDepth 100000
open Go.Lib (hid)
open Go.RowKit
theorem Row.put4 {w : World} {b : Nat} {t : TypeId} {x0 x1 x2 x3 : Value} (h : Row w b t [x0, x1, x2, x3]) (a c d e : Value) : Row ((((w.setCell ⟨b, 0, none⟩ a).setCell ⟨b, 1, none⟩ c).setCell ⟨b, 2, none⟩ d).setCell ⟨b, 3, none⟩ e) b t [a, c, d, e] := (((h.set 0 a).set 1 c).set 2 d).set 3 e
theorem Row.put2 {w : World} {b : Nat} {t : TypeId} {x0 x1 : Value} (h : Row w b t [x0, x1]) (a c : Value) : Row ((w.setCell ⟨b, 0, none⟩ a).setCell ⟨b, 1, none⟩ c) b t [a, c] := (h.set 0 a).set 1 c
theorem But.put4 (g : Nat) (w : World) (a b c d : Value) : But g w ((((w.setCell ⟨g, 0, none⟩ a).setCell ⟨g, 1, none⟩ b).setCell ⟨g, 2, none⟩ c).setCell ⟨g, 3, none⟩ d) := ((((But.refl g w).set 0 a).set 1 b).set 2 c).set 3 d
theorem But.put2 (g : Nat) (w : World) (a b : Value) : But g w ((w.setCell ⟨g, 0, none⟩ a).setCell ⟨g, 1, none⟩ b) := ((But.refl g w).set 0 a).set 1 b
theorem But.fr {g : Nat} {w w1 w' : World} {X : Nat -> Prop} (h : Fr X w w1) (k : But g w1 w') (hg : w.heap.size <= g) : Fr X w w' :=
 ⟨k.os.trans h.os, k.tape.trans h.tape, k.output.trans h.output, by rw [k.size]; exact h.size, fun i hi hx => (k.block i (by omega)).trans (h.block i hi hx)⟩
theorem Row.fr {w w' : World} {b rb : Nat} {t : TypeId} {cs : List Value} (h : Row w b t cs) (hf : Fr (· = rb) w w') (hb : b ≠ rb) : Row w' b t cs := h.keep (hf.block b h.lt hb)
theorem RdAt.but {w w' : World} {rb g : Nat} {s : BA} {o : Nat} {S : St} (h : RdAt w rb s o S) (k : But g w w') (hg : rb ≠ g) : RdAt w' rb s o S := h.keep (k.block rb hg)
theorem SlC.fsh {w1 w2 : World} {B B2 n : Nat} {v : Value} {xs : List Cs} (h : SlC w1 (Fsh B2 w1) n v xs) (hk : ∀ b, B2 <= b -> b < w1.heap.size -> w2.heap[b]? = w1.heap[b]?) (hB : B <= B2) (hz : w1.heap.size <= w2.heap.size) : SlC w2 (Fsh B w2) n v xs :=
 h.keep (fun b hb => hk b hb.1 hb.2) (fun b hb => ⟨by omega, by omega⟩)
theorem SlP.fsh {w1 w2 : World} {B B2 n : Nat} {v : Value} {xs : List Pt} (h : SlP w1 (Fsh B2 w1) n v xs) (hk : ∀ b, B2 <= b -> b < w1.heap.size -> w2.heap[b]? = w1.heap[b]?) (hB : B <= B2) (hz : w1.heap.size <= w2.heap.size) : SlP w2 (Fsh B w2) n v xs :=
 h.keep (fun b hb => hk b hb.1 hb.2) (fun b hb => ⟨by omega, by omega⟩)
def zdr (rb : Nat) (s : BA) (o : Nat) (w : World) (r : List Cs × St) (e : Ending) (w' : World) : Prop :=
 ∃ a cap n, e = .returned (.slice a r.1.length cap) /\ SlC w' (Fsh w.heap.size w') n (.slice a r.1.length cap) r.1 /\ RdAt w' rb s o r.2 /\ Fr (· = rb) w w'
def z83 (rb : Nat) (s : BA) (o : Nat) (w : World) (r : List Pt × St) (e : Ending) (w' : World) : Prop :=
 ∃ a cap n, e = .returned (.slice a r.1.length cap) /\ SlP w' (Fsh w.heap.size w') n (.slice a r.1.length cap) r.1 /\ RdAt w' rb s o r.2 /\ Fr (· = rb) w w'
def z6o (rb : Nat) (s : BA) (o : Nat) (w : World) (r : Pt × St) (e : Ending) (w' : World) : Prop :=
 ∃ v n, e = .returned (.agg #[.int .i64 r.1.k, .string r.1.t, .string r.1.n, v]) /\ SlC w' (Fsh w.heap.size w') n v r.1.cs /\ RdAt w' rb s o r.2 /\ Fr (· = rb) w w'
def za9 (rb : Nat) (s : BA) (o : Nat) (w : World) (r : Cs × St) (e : Ending) (w' : World) : Prop :=
 ∃ v n, e = .returned (.agg #[.string r.1.key, v]) /\ SlP w' (Fsh w.heap.size w') n v r.1.kids /\ RdAt w' rb s o r.2 /\ Fr (· = rb) w w'
def z5a (f : Nat) : Prop := ∀ (h : Bool) (o rb : Nat) (s : BA) (S : St) (w : World), s.size <= 2000 -> o + f <= 4000 -> Wf s.data.toList S -> ((oneF s.data.toList [32] S).2.2 = 0 -> s.size - (oneF s.data.toList [32] S).2.1 < f) -> RdAt w rb s o S -> Env w rb ->
 Calls Tryz.prog 269 #[.pointer (some ⟨rb, 0, none⟩), .bool h] w (zdr rb s o w (z0b s.data.toList f h o [] (oneF s.data.toList [32] S)))
def z4l (f : Nat) : Prop := ∀ (h : Bool) (o rb : Nat) (s : BA) (S : St) (w : World), s.size <= 2000 -> o + f <= 4000 -> Wf s.data.toList S -> (S.2 = 0 -> s.size - S.1 < f) -> RdAt w rb s o S -> Env w rb ->
 Calls Tryz.prog 189 #[.pointer (some ⟨rb, 0, none⟩), .bool h] w (z83 rb s o w (z0c s.data.toList f h o [] S))
theorem hole_sel {l : List UInt8} {cf : Bool -> List UInt8 × St -> List Cs × St} {h : Bool} {S : St} {a : List UInt8 × St} (ha : longF l nameB (wordF l [123] S) = a) (hs : nextF l [44, 32, 115] a.2 = true) :
  holeG l cf h S = (.mk 5 (ba []) (ba a.1) (cf h (oneF l [32] (wordF l seW a.2))).1, (cf h (oneF l [32] (wordF l seW a.2))).2) := by
 unfold holeG; simp only; rw [ha, if_pos hs]
theorem hole_plu {l : List UInt8} {cf : Bool -> List UInt8 × St -> List Cs × St} {h : Bool} {S : St} {a : List UInt8 × St} (ha : longF l nameB (wordF l [123] S) = a) (hs : nextF l [44, 32, 115] a.2 = false) (hp : nextF l [44] a.2 = true) :
  holeG l cf h S = (.mk 4 (ba []) (ba a.1) (cf true (oneF l [32] (wordF l plW a.2))).1, (cf true (oneF l [32] (wordF l plW a.2))).2) := by
 unfold holeG; simp only; rw [ha, if_neg (by rw [hs]; simp), if_pos hp]
theorem hole_arg {l : List UInt8} {cf : Bool -> List UInt8 × St -> List Cs × St} {h : Bool} {S : St} {a : List UInt8 × St} (ha : longF l nameB (wordF l [123] S) = a) (hs : nextF l [44, 32, 115] a.2 = false) (hp : nextF l [44] a.2 = false) :
  holeG l cf h S = (.mk 2 (ba []) (ba a.1) [], wordF l [125] a.2) := by
 unfold holeG; simp only; rw [ha, if_neg (by rw [hs]; simp), if_neg (by rw [hp]; simp)]
theorem hole_any (f : Nat) (HC : z5a f) (h : Bool) (o rb : Nat) (s : BA) (S : St) (w : World) (hs : s.size <= 2000) (ho : o + f <= 4000) (hS : Wf s.data.toList S) (hn : nextF s.data.toList [123] S = true) (hf : s.size - S.1 < f + 1) (hR : RdAt w rb s o S) (hE : Env w rb) :
  Calls Tryz.prog 246 #[.pointer (some ⟨rb, 0, none⟩), .bool h] w (z6o rb s o w (holeG s.data.toList (fun h b => z0b s.data.toList f h o [] b) h S)) := by
 have hlr := hR.lt
 have HQ0 : Hid (Row (w.alloc (.cells #[.int .i64 0, .string ⟨#[]⟩, .string ⟨#[]⟩, .slice none 0 0] 263)) w.heap.size 263 [.int .i64 0, .string ⟨#[]⟩, .string ⟨#[]⟩, .slice none 0 0]) := hid (z02 w #[.int .i64 0, .string ⟨#[]⟩, .string ⟨#[]⟩, .slice none 0 0] 263)
 have HR0 : Hid (RdAt (w.alloc (.cells #[.int .i64 0, .string ⟨#[]⟩, .string ⟨#[]⟩, .slice none 0 0] 263)) rb s o S) := hid (hR.alloc _)
 have HE0 : Hid (Env (w.alloc (.cells #[.int .i64 0, .string ⟨#[]⟩, .string ⟨#[]⟩, .slice none 0 0] 263)) rb) := hid (hE.below (z04 _ _))
 have HF0 : Hid (Fr (· = rb) w (w.alloc (.cells #[.int .i64 0, .string ⟨#[]⟩, .string ⟨#[]⟩, .slice none 0 0] 263))) := hid ((Fr.refl _ _).alloc _)
 have HWD : Hid (Calls Tryz.prog 247 #[.pointer (some ⟨rb, 0, none⟩), .string ⟨#[123]⟩] (w.alloc (.cells #[.int .i64 0, .string ⟨#[]⟩, .string ⟨#[]⟩, .slice none 0 0] 263)) _) := hid (z0n rb s ⟨#[123]⟩ o S _ hs (by decide) hS HR0.out)
 have HS1 := hid (z1o (z08 s.data.toList [123] S) hS)
 have hadv : S.1 + 1 <= (wordF s.data.toList [123] S).1 := by rw [z2n hn]; exact (z08 _ [] (S.1 + 1, 0)).1
 have hlt := z2u (z11.1 hn).2
 rw [z05] at hlt
 clear hR hE hn
 go_enter Tryz.func246, Tryz.ntmps246
 go_wp2_with fail
 generalize w.alloc (.cells #[.int .i64 0, .string ⟨#[]⟩, .string ⟨#[]⟩, .slice none 0 0] 263) = w1 at *
 refine HWD.out.mono ?_
 rintro e w2 ⟨rfl, hr2, hf2⟩
 try rw [show ((⟨#[123]⟩ : BA).data.toList) = [123] from rfl] at hr2
 have HQ2 := hid (HQ0.out.fr hf2 (by omega))
 have HE2 := hid (HE0.out.fr hf2)
 have HF2 := hid (HF0.out.trans hf2)
 have HL := hid (z44 rb s o _ w2 hs HS1.out hr2 HE2.out)
 have HG := hid (z2b s.data.toList nameB (wordF s.data.toList [123] S))
 clear hr2 hf2 HWD HQ0 HR0 HE0 HF0
 obtain ⟨A, HA⟩ : ∃ A, Hid (longF s.data.toList nameB (wordF s.data.toList [123] S) = A) := ⟨_, hid rfl⟩
 rw [HA.out] at HL HG
 obtain ⟨nm, U⟩ := A
 simp only at HL HG
 go_wp2_with fail
 refine HL.out.mono ?_
 rintro e w3 ⟨rfl, hr3, hf3⟩
 have HQ3 := hid (HQ2.out.fr hf3 (by omega))
 have HE3 := hid (HE2.out.fr hf3)
 have HF3 := hid (HF2.out.trans hf3)
 have HR3 := hid hr3
 have HSU := hid (z1o HG.out HS1.out)
 have HN1 : Hid (Calls Tryz.prog 219 #[.pointer (some ⟨rb, 0, none⟩), .string ⟨#[44, 32, 115]⟩] w3 fun e w' => e = .returned (.bool (nextF s.data.toList [44, 32, 115] U)) /\ Same w3 w') := hid (z1j rb s ⟨#[44, 32, 115]⟩ o U w3 hs HSU.out (by decide) hr3)
 have hgU := HG.out.1
 clear hr3 hf3 HL HQ2 HE2 HF2
 have hex : ByteArray.extract ⟨#[44, 32, 115, 101, 108, 101, 99, 116, 44]⟩ 0 3 = ⟨#[44, 32, 115]⟩ := by decide
 cases hb1 : nextF s.data.toList [44, 32, 115] U with
 | true =>
  rw [hb1] at HN1
  have HK := hid (hole_sel (cf := fun h b => z0b s.data.toList f h o [] b) (h := h) HA.out hb1)
  go_wp2_with fail
  refine HN1.out.mono ?_
  rintro e w4 ⟨rfl, hw4⟩
  clear hb1
  have HR4 := hid (HR3.out.same hw4)
  have HQ4 := hid (hw4.row HQ3.out)
  have HE4 := hid (HE3.out.same hw4)
  have HF4 := hid (HF3.out.trans (Fr.of_same hw4))
  have HWD : Hid (Calls Tryz.prog 247 #[.pointer (some ⟨rb, 0, none⟩), .string ⟨#[44, 32, 115, 101, 108, 101, 99, 116, 44]⟩] w4 fun e w' => e = .returned (.tuple #[]) /\ RdAt w' rb s o (wordF s.data.toList seW U) /\ Fr (· = rb) w4 w') := hid (z0n rb s ⟨#[44, 32, 115, 101, 108, 101, 99, 116, 44]⟩ o U w4 hs (by decide) HSU.out HR4.out)
  have HGW := hid (z08 s.data.toList seW U)
  clear hw4 HN1 HR3 HQ3 HE3 HF3 HR4
  go_wp2_with fail
  refine HWD.out.mono ?_
  rintro e w5 ⟨rfl, hr5, hf5⟩
  have HQ5 := hid (HQ4.out.fr hf5 (by omega))
  have HE5 := hid (HE4.out.fr hf5)
  have HF5 := hid (HF4.out.trans hf5)
  have HS5 := hid (z1o HGW.out HSU.out)
  have hgw := HGW.out.1
  have HCC : Hid (Calls Tryz.prog 269 #[.pointer (some ⟨rb, 0, none⟩), .bool h] w5 _) := hid (HC h o rb s _ w5 hs ho HS5.out (fun e => by have := z8h e; omega) hr5 HE5.out)
  clear hr5 hf5 HWD HQ4 HE4 HF4
  generalize z0b s.data.toList f h o [] (oneF s.data.toList [32] (wordF s.data.toList seW U)) = r at *
  obtain ⟨cs, V⟩ := r
  go_wp2_with fail
  refine HCC.out.mono ?_
  rintro e w6 ⟨a, cap, n, rfl, hsl, hr6, hf6⟩
  have HSL := hid hsl
  have HR6 := hid hr6
  have HQ6 := hid (HQ5.out.fr hf6 (by omega))
  have HF6 := hid (HF5.out.trans hf6)
  have HZ : Hid (w.heap.size < w5.heap.size) := hid HQ5.out.lt
  clear hsl hr6 hf6 HCC HQ5 HE5 HF5
  simp only at HSL HR6
  obtain ⟨ln, HLN⟩ : ∃ ln, Hid (ln = cs.length) := ⟨_, hid rfl⟩
  rw [<- HLN.out]
  have q0 := HQ6.out.cell (i := 0) rfl
  have q1 := HQ6.out.cell (i := 1) rfl
  have q2 := HQ6.out.cell (i := 2) rfl
  have q3 := HQ6.out.cell (i := 3) rfl
  have y0 := HQ6.out.thaw 0
  have y1 := HQ6.out.thaw 1
  have y2 := HQ6.out.thaw 2
  have y3 := HQ6.out.thaw 3
  go_wp2
  have Q7 := HQ6.out.put4 (.int .i64 5) (.string ⟨#[]⟩) (.string (ba nm)) (.slice a ln cap)
  have B7 := But.put4 w.heap.size w6 (.int .i64 5) (.string ⟨#[]⟩) (.string (ba nm)) (.slice a ln cap)
  generalize (((w6.setCell ⟨w.heap.size, 0, none⟩ (.int .i64 5)).setCell ⟨w.heap.size, 1, none⟩ (.string ⟨#[]⟩)).setCell ⟨w.heap.size, 2, none⟩ (.string (ba nm))).setCell ⟨w.heap.size, 3, none⟩ (.slice a ln cap) = w7 at *
  have e0 := Q7.cell (i := 0) rfl
  have e1 := Q7.cell (i := 1) rfl
  have e2 := Q7.cell (i := 2) rfl
  have e3 := Q7.cell (i := 3) rfl
  have hz := HZ.out
  exact bodyPost_ret (v := .agg #[.int .i64 5, .string ⟨#[]⟩, .string (ba nm), .slice a ln cap]) (by simp [results, Tryz.results246, go_sem, e0, e1, e2, e3]) rfl (by
   rw [HK.out, HLN.out]
   exact ⟨_, n, rfl, HSL.out.fsh (fun b hb _ => B7.block b (by omega)) (by omega) (by rw [B7.size]; exact Nat.le_refl _), HR6.out.but B7 (by omega), But.fr HF6.out B7 (Nat.le_refl _)⟩)
 | false =>
  rw [hb1] at HN1
  cases hb2 : nextF s.data.toList [44] U with
  | true =>
   have HK := hid (hole_plu (cf := fun h b => z0b s.data.toList f h o [] b) (h := h) HA.out hb1 hb2)
   go_wp2_with fail
   refine HN1.out.mono ?_
   rintro e w4 ⟨rfl, hw4⟩
   have HN2 : Hid (Calls Tryz.prog 219 #[.pointer (some ⟨rb, 0, none⟩), .string ⟨#[44]⟩] w4 fun e w' => e = .returned (.bool (nextF s.data.toList [44] U)) /\ Same w4 w') := hid (z1j rb s ⟨#[44]⟩ o U w4 hs HSU.out (by decide) (HR3.out.same hw4))
   rw [hb2] at HN2
   have HR3 := hid (HR3.out.same hw4)
   have HQ3 := hid (hw4.row HQ3.out)
   have HE3 := hid (HE3.out.same hw4)
   have HF3 := hid (HF3.out.trans (Fr.of_same hw4))
   clear hw4 HN1 hb1 hb2
   go_wp2_with fail
   refine HN2.out.mono ?_
   rintro e w4 ⟨rfl, hw4⟩
   have HN1 := 0
   have HR4 := hid (HR3.out.same hw4)
   have HQ4 := hid (hw4.row HQ3.out)
   have HE4 := hid (HE3.out.same hw4)
   have HF4 := hid (HF3.out.trans (Fr.of_same hw4))
   have HWD : Hid (Calls Tryz.prog 247 #[.pointer (some ⟨rb, 0, none⟩), .string ⟨#[44, 32, 112, 108, 117, 114, 97, 108, 44]⟩] w4 fun e w' => e = .returned (.tuple #[]) /\ RdAt w' rb s o (wordF s.data.toList plW U) /\ Fr (· = rb) w4 w') := hid (z0n rb s ⟨#[44, 32, 112, 108, 117, 114, 97, 108, 44]⟩ o U w4 hs (by decide) HSU.out HR4.out)
   have HGW := hid (z08 s.data.toList plW U)
   clear hw4 HN1 HR3 HQ3 HE3 HF3 HR4
   go_wp2_with fail
   refine HWD.out.mono ?_
   rintro e w5 ⟨rfl, hr5, hf5⟩
   have HQ5 := hid (HQ4.out.fr hf5 (by omega))
   have HE5 := hid (HE4.out.fr hf5)
   have HF5 := hid (HF4.out.trans hf5)
   have HS5 := hid (z1o HGW.out HSU.out)
   have hgw := HGW.out.1
   have HCC : Hid (Calls Tryz.prog 269 #[.pointer (some ⟨rb, 0, none⟩), .bool true] w5 _) := hid (HC true o rb s _ w5 hs ho HS5.out (fun e => by have := z8h e; omega) hr5 HE5.out)
   clear hr5 hf5 HWD HQ4 HE4 HF4
   generalize z0b s.data.toList f true o [] (oneF s.data.toList [32] (wordF s.data.toList plW U)) = r at *
   obtain ⟨cs, V⟩ := r
   go_wp2_with fail
   refine HCC.out.mono ?_
   rintro e w6 ⟨a, cap, n, rfl, hsl, hr6, hf6⟩
   have HSL := hid hsl
   have HR6 := hid hr6
   have HQ6 := hid (HQ5.out.fr hf6 (by omega))
   have HF6 := hid (HF5.out.trans hf6)
   have HZ : Hid (w.heap.size < w5.heap.size) := hid HQ5.out.lt
   clear hsl hr6 hf6 HCC HQ5 HE5 HF5
   simp only at HSL HR6
   obtain ⟨ln, HLN⟩ : ∃ ln, Hid (ln = cs.length) := ⟨_, hid rfl⟩
   rw [<- HLN.out]
   have q0 := HQ6.out.cell (i := 0) rfl
   have q1 := HQ6.out.cell (i := 1) rfl
   have q2 := HQ6.out.cell (i := 2) rfl
   have q3 := HQ6.out.cell (i := 3) rfl
   have y0 := HQ6.out.thaw 0
   have y1 := HQ6.out.thaw 1
   have y2 := HQ6.out.thaw 2
   have y3 := HQ6.out.thaw 3
   go_wp2
   have Q7 := HQ6.out.put4 (.int .i64 4) (.string ⟨#[]⟩) (.string (ba nm)) (.slice a ln cap)
   have B7 := But.put4 w.heap.size w6 (.int .i64 4) (.string ⟨#[]⟩) (.string (ba nm)) (.slice a ln cap)
   generalize (((w6.setCell ⟨w.heap.size, 0, none⟩ (.int .i64 4)).setCell ⟨w.heap.size, 1, none⟩ (.string ⟨#[]⟩)).setCell ⟨w.heap.size, 2, none⟩ (.string (ba nm))).setCell ⟨w.heap.size, 3, none⟩ (.slice a ln cap) = w7 at *
   have e0 := Q7.cell (i := 0) rfl
   have e1 := Q7.cell (i := 1) rfl
   have e2 := Q7.cell (i := 2) rfl
   have e3 := Q7.cell (i := 3) rfl
   have hz := HZ.out
   exact bodyPost_ret (v := .agg #[.int .i64 4, .string ⟨#[]⟩, .string (ba nm), .slice a ln cap]) (by simp [results, Tryz.results246, go_sem, e0, e1, e2, e3]) rfl (by
    rw [HK.out, HLN.out]
    exact ⟨_, n, rfl, HSL.out.fsh (fun b hb _ => B7.block b (by omega)) (by omega) (by rw [B7.size]; exact Nat.le_refl _), HR6.out.but B7 (by omega), But.fr HF6.out B7 (Nat.le_refl _)⟩)
  | false =>
   have HK := hid (hole_arg (cf := fun h b => z0b s.data.toList f h o [] b) (h := h) HA.out hb1 hb2)
   go_wp2_with fail
   refine HN1.out.mono ?_
   rintro e w4 ⟨rfl, hw4⟩
   have HN2 : Hid (Calls Tryz.prog 219 #[.pointer (some ⟨rb, 0, none⟩), .string ⟨#[44]⟩] w4 fun e w' => e = .returned (.bool (nextF s.data.toList [44] U)) /\ Same w4 w') := hid (z1j rb s ⟨#[44]⟩ o U w4 hs HSU.out (by decide) (HR3.out.same hw4))
   rw [hb2] at HN2
   have HR4 := hid (HR3.out.same hw4)
   have HQ4 := hid (hw4.row HQ3.out)
   have HF4 := hid (HF3.out.trans (Fr.of_same hw4))
   clear hw4 HN1 hb1 hb2 HR3 HQ3 HE3 HF3
   go_wp2_with fail
   refine HN2.out.mono ?_
   rintro e w5 ⟨rfl, hw5⟩
   have HR5 := hid (HR4.out.same hw5)
   have HQ5 := hid (hw5.row HQ4.out)
   have HF5 := hid (HF4.out.trans (Fr.of_same hw5))
   clear hw5 HN2 HR4 HQ4 HF4
   have HWD : Hid (Calls Tryz.prog 247 #[.pointer (some ⟨rb, 0, none⟩), .string ⟨#[125]⟩] w5 fun e w' => e = .returned (.tuple #[]) /\ RdAt w' rb s o (wordF s.data.toList [125] U) /\ Fr (· = rb) w5 w') := hid (z0n rb s ⟨#[125]⟩ o U w5 hs (by decide) HSU.out HR5.out)
   go_wp2_with fail
   refine HWD.out.mono ?_
   rintro e w6 ⟨rfl, hr6, hf6⟩
   have HR6 := hid hr6
   have HQ6 := hid (HQ5.out.fr hf6 (by omega))
   have HF6 := hid (HF5.out.trans hf6)
   clear hr6 hf6 HWD HQ5 HF5 HR5
   have q0 := HQ6.out.cell (i := 0) rfl
   have q1 := HQ6.out.cell (i := 1) rfl
   have q2 := HQ6.out.cell (i := 2) rfl
   have q3 := HQ6.out.cell (i := 3) rfl
   have y0 := HQ6.out.thaw 0
   have y1 := HQ6.out.thaw 1
   have y2 := HQ6.out.thaw 2
   have y3 := HQ6.out.thaw 3
   go_wp2
   have Q7 := HQ6.out.put4 (.int .i64 2) (.string ⟨#[]⟩) (.string (ba nm)) (.slice none 0 0)
   have B7 := But.put4 w.heap.size w6 (.int .i64 2) (.string ⟨#[]⟩) (.string (ba nm)) (.slice none 0 0)
   generalize (((w6.setCell ⟨w.heap.size, 0, none⟩ (.int .i64 2)).setCell ⟨w.heap.size, 1, none⟩ (.string ⟨#[]⟩)).setCell ⟨w.heap.size, 2, none⟩ (.string (ba nm))).setCell ⟨w.heap.size, 3, none⟩ (.slice none 0 0) = w7 at *
   have e0 := Q7.cell (i := 0) rfl
   have e1 := Q7.cell (i := 1) rfl
   have e2 := Q7.cell (i := 2) rfl
   have e3 := Q7.cell (i := 3) rfl
   exact bodyPost_ret (v := .agg #[.int .i64 2, .string ⟨#[]⟩, .string (ba nm), .slice none 0 0]) (by simp [results, Tryz.results246, go_sem, e0, e1, e2, e3]) rfl (by
    rw [HK.out]
    exact ⟨_, 0, rfl, Sl.nil _ _ _ _, HR6.out.but B7 (by omega), But.fr HF6.out B7 (Nat.le_refl _)⟩)
end Go.Proofs.YtdkkkeoicekdgaaGreatDoor

end

section

namespace Go.Proofs.YtdkkkeoicekdgaaGreatDoor
set_option maxHeartbeats 3200000
set_option maxRecDepth 100000
open Go.Lib (hid)
open Go.RowKit
theorem z57 {l : List UInt8} {pf : St -> List Pt × St} {o : Nat} {S K R : St} {ky : List UInt8} (h1 : keyF l S = (ky, K)) (h2 : deepF l o (wordF l [32] K) = R) :
  z0z l pf o S = (.mk (ba ky) (pf (wordF l [123] R)).1, wordF l [125] (pf (wordF l [123] R)).2) := by
 unfold z0z; simp only; rw [h1]; simp only; rw [h2]
theorem deep_yes {l : List UInt8} {o : Nat} {S : St} (h : nextF l [123] S = true) (ho : o = 32) : deepF l o S = (S.1, 12) := by unfold deepF; rw [if_pos ⟨h, ho⟩]
theorem deep_no1 {l : List UInt8} {o : Nat} {S : St} (h : nextF l [123] S = false) : deepF l o S = S := by unfold deepF; rw [if_neg (fun e => by rw [h] at e; cases e.1)]
theorem deep_no2 {l : List UInt8} {o : Nat} {S : St} (h : o ≠ 32) : deepF l o S = S := by unfold deepF; rw [if_neg (fun e => h e.2)]
theorem zay (f : Nat) (HP : z4l f) (h : Bool) (o rb : Nat) (s : BA) (S : St) (w : World) (hs : s.size <= 2000) (ho : o + 1 + f <= 4000) (hS : Wf s.data.toList S) (hf : s.size - S.1 < f + 1) (hR : RdAt w rb s o S) (hE : Env w rb) :
  Calls Tryz.prog 284 #[.pointer (some ⟨rb, 0, none⟩), .bool h] w (za9 rb s o w (z0z s.data.toList (fun S => z0c s.data.toList f h (o + 1) [] S) o S)) := by
 have hlr := hR.lt
 obtain ⟨p, HPO⟩ : ∃ p, Hid (p = o + 1) := ⟨_, hid rfl⟩
 rw [<- HPO.out]
 have hpi : ((o : Int) + 1) = (p : Int) := by have := HPO.out; omega
 have hpo : ((p : Int) - 1) = (o : Int) := by omega
 have HPF : Hid (p + f <= 4000) := hid (by have := HPO.out; omega)
 have hoo : o <= 4000 := by omega
 have hpp : p <= 4000 := by have := HPF.out; omega
 have HQ0 : Hid (Row (w.alloc (.cells #[.string ⟨#[]⟩, .slice none 0 0] 284)) w.heap.size 284 [.string ⟨#[]⟩, .slice none 0 0]) := hid (z02 w #[.string ⟨#[]⟩, .slice none 0 0] 284)
 have HR0 : Hid (RdAt (w.alloc (.cells #[.string ⟨#[]⟩, .slice none 0 0] 284)) rb s o S) := hid (hR.alloc _)
 have HE0 : Hid (Env (w.alloc (.cells #[.string ⟨#[]⟩, .slice none 0 0] 284)) rb) := hid (hE.below (z04 _ _))
 have HF0 : Hid (Fr (· = rb) w (w.alloc (.cells #[.string ⟨#[]⟩, .slice none 0 0] 284))) := hid ((Fr.refl _ _).alloc _)
 have HKY := hid (key_any rb s o S _ hs hS HR0.out HE0.out)
 have HGK := hid (z9r s.data.toList S)
 have HS := hid hS
 clear hR hE hS ho
 obtain ⟨A, HA⟩ : ∃ A, Hid (keyF s.data.toList S = A) := ⟨_, hid rfl⟩
 rw [HA.out] at HKY HGK
 obtain ⟨ky, K⟩ := A
 simp only at HKY HGK
 go_enter Tryz.func284, Tryz.ntmps284
 go_wp2_with fail
 generalize w.alloc (.cells #[.string ⟨#[]⟩, .slice none 0 0] 284) = w1 at *
 refine HKY.out.mono ?_
 rintro e w2 ⟨rfl, hr2, hf2⟩
 have HQ2 := hid (HQ0.out.fr hf2 (by omega))
 have HE2 := hid (HE0.out.fr hf2)
 have HF2 := hid (HF0.out.trans hf2)
 have HSK := hid (z1o HGK.out HS.out)
 have hgk := HGK.out.1
 have HWD : Hid (Calls Tryz.prog 247 #[.pointer (some ⟨rb, 0, none⟩), .string ⟨#[32]⟩] w2 fun e w' => e = .returned (.tuple #[]) /\ RdAt w' rb s o (wordF s.data.toList [32] K) /\ Fr (· = rb) w2 w') := hid (z0n rb s ⟨#[32]⟩ o K w2 hs (by decide) HSK.out hr2)
 have HGW := hid (z08 s.data.toList [32] K)
 obtain ⟨U, HU⟩ : ∃ U, Hid (wordF s.data.toList [32] K = U) := ⟨_, hid rfl⟩
 rw [HU.out] at HWD HGW
 clear hr2 hf2 HKY HQ0 HE0 HF0 HR0
 go_wp2_with fail
 refine HWD.out.mono ?_
 rintro e w3 ⟨rfl, hr3, hf3⟩
 have HR3 := hid hr3
 have HQ3 := hid (HQ2.out.fr hf3 (by omega))
 have HE3 := hid (HE2.out.fr hf3)
 have HF3 := hid (HF2.out.trans hf3)
 have HSU := hid (z1o HGW.out HSK.out)
 have hgu := HGW.out.1
 have HN1 : Hid (Calls Tryz.prog 219 #[.pointer (some ⟨rb, 0, none⟩), .string ⟨#[123]⟩] w3 fun e w' => e = .returned (.bool (nextF s.data.toList [123] U)) /\ Same w3 w') := hid (z1j rb s ⟨#[123]⟩ o U w3 hs HSU.out (by decide) hr3)
 clear hr3 hf3 HWD HQ2 HE2 HF2
 cases hb1 : nextF s.data.toList [123] U with
 | true =>
  rw [hb1] at HN1
  by_cases h32 : o = 32
  ·have hB : ((o : Int) == (32 : Int)) = true := by rw [beq_iff_eq]; omega
   obtain ⟨R, HRR⟩ : ∃ R : St, Hid (R = (U.1, 12)) := ⟨_, hid rfl⟩
   have HK := hid (z57 (o := o) (pf := fun S => z0c s.data.toList f h p [] S) (R := R) HA.out (by rw [HU.out, deep_yes hb1 h32, HRR.out]))
   have HSR : Hid (Wf s.data.toList R) := hid (by
    rw [HRR.out]
    have hlt := z2u (z11.1 hb1).2
    exact ⟨by show U.1 <= _; omega, .inr (.inr ⟨.inr rfl, hlt⟩)⟩)
   have hgr : S.1 <= R.1 := by rw [HRR.out]; show S.1 <= U.1; omega
   clear hb1 h32
   go_wp2_with fail
   refine HN1.out.mono ?_
   rintro e w4 ⟨rfl, hw4⟩
   have HR4 := hid (HR3.out.same hw4)
   have HQ4 := hid (hw4.row HQ3.out)
   have HE4 := hid (HE3.out.same hw4)
   have HF4 := hid (HF3.out.trans (Fr.of_same hw4))
   clear hw4 HN1 HR3 HQ3 HE3 HF3
   have HR5 : Hid (RdAt (w4.setCell ⟨rb, 3, none⟩ (.int .i64 12)) rb s o R) := hid (by rw [HRR.out]; exact HR4.out.set3 12)
   have HQ5 : Hid (Row (w4.setCell ⟨rb, 3, none⟩ (.int .i64 12)) w.heap.size 284 [.string ⟨#[]⟩, .slice none 0 0]) := hid (HQ4.out.fr (z0l 3 _) (by omega))
   have HE5 : Hid (Env (w4.setCell ⟨rb, 3, none⟩ (.int .i64 12)) rb) := hid (HE4.out.fr (z0l 3 _))
   have HF5 : Hid (Fr (· = rb) w (w4.setCell ⟨rb, 3, none⟩ (.int .i64 12))) := hid (HF4.out.trans (z0l 3 _))
   have c2 := HR4.out.c2
   have z3 := HR4.out.thaw 3
   have c3 := HR4.out.c3
   go_wp2_with fail
   generalize w4.setCell ⟨rb, 3, none⟩ (.int .i64 12) = w5 at *
   clear c2 z3 c3 HR4 HQ4 HE4 HF4
   have HWD : Hid (Calls Tryz.prog 247 #[.pointer (some ⟨rb, 0, none⟩), .string ⟨#[123]⟩] w5 fun e w' => e = .returned (.tuple #[]) /\ RdAt w' rb s o (wordF s.data.toList [123] R) /\ Fr (· = rb) w5 w') := hid (z0n rb s ⟨#[123]⟩ o R w5 hs (by decide) HSR.out HR5.out)
   have HGR := hid (z08 s.data.toList [123] R)
   have HAD : Hid ((wordF s.data.toList [123] R).2 = 0 -> R.1 + 1 <= (wordF s.data.toList [123] R).1) := hid z4c
   obtain ⟨T, HT⟩ : ∃ T, Hid (wordF s.data.toList [123] R = T) := ⟨_, hid rfl⟩
   rw [HT.out] at HWD HGR HAD HK
   clear HR5
   go_wp2_with fail
   refine HWD.out.mono ?_
   rintro e w6 ⟨rfl, hr6, hf6⟩
   have HR6 := hid hr6
   have HQ6 := hid (HQ5.out.fr hf6 (by omega))
   have HE6 := hid (HE5.out.fr hf6)
   have HF6 := hid (HF5.out.trans hf6)
   have HST := hid (z1o HGR.out HSR.out)
   have hleT := z3p HST.out
   clear hr6 hf6 HWD HQ5 HE5 HF5
   have HCP := hid (HP h p rb s T (w6.setCell ⟨rb, 2, none⟩ (.int .i64 p)) hs HPF.out HST.out (fun e => by have := HAD.out e; omega) (HR6.out.set2 p) (HE6.out.fr (z0l 2 _)))
   have HGP := hid (z2p s.data.toList f h p [] T)
   have HQ7 : Hid (Row (w6.setCell ⟨rb, 2, none⟩ (.int .i64 p)) w.heap.size 284 [.string ⟨#[]⟩, .slice none 0 0]) := hid (HQ6.out.fr (z0l 2 _) (by omega))
   have HF7 : Hid (Fr (· = rb) w (w6.setCell ⟨rb, 2, none⟩ (.int .i64 p))) := hid (HF6.out.trans (z0l 2 _))
   have z2 := HR6.out.thaw 2
   have c2 := HR6.out.c2
   clear HQ6 HE6 HF6 HR6
   generalize z0c s.data.toList f h p [] T = r at *
   obtain ⟨kids, V⟩ := r
   simp only at HGP HK
   go_wp2_with fail
   generalize w6.setCell ⟨rb, 2, none⟩ (.int .i64 p) = w7 at *
   refine HCP.out.mono ?_
   rintro e w8 ⟨a, cap, n, rfl, hsl, hr8, hf8⟩
   simp only at hsl hr8
   have HSV := hid (z1o HGP.out HST.out)
   have HSL := hid hsl
   have HZ : Hid (w.heap.size < w7.heap.size) := hid HQ7.out.lt
   have HQ8 := hid (HQ7.out.fr hf8 (by omega))
   have HF8 := hid (HF7.out.trans hf8)
   have HR9 : Hid (RdAt (w8.setCell ⟨rb, 2, none⟩ (.int .i64 o)) rb s o V) := hid (hr8.set2 o)
   have HWD2 : Hid (Calls Tryz.prog 247 #[.pointer (some ⟨rb, 0, none⟩), .string ⟨#[125]⟩] (w8.setCell ⟨rb, 2, none⟩ (.int .i64 o)) fun e w' => e = .returned (.tuple #[]) /\ RdAt w' rb s o (wordF s.data.toList [125] V) /\ Fr (· = rb) (w8.setCell ⟨rb, 2, none⟩ (.int .i64 o)) w') := hid (z0n rb s ⟨#[125]⟩ o V _ hs (by decide) HSV.out HR9.out)
   clear z2 c2
   have z2 := hr8.thaw 2
   have c2 := hr8.c2
   obtain ⟨ln, HLN⟩ : ∃ ln, Hid (ln = kids.length) := ⟨_, hid rfl⟩
   rw [<- HLN.out] at HSL ⊢
   have hz7 : w7.heap.size <= w8.heap.size := hf8.size
   clear hsl hr8 hf8 HCP HQ7 HF7 HR9
   go_wp2_with fail
   refine HWD2.out.mono ?_
   rintro e w9 ⟨rfl, hr9, hf9⟩
   have HX := hid ((z0l (w := w8) (rb := rb) 2 (.int .i64 o)).trans hf9)
   have HR9 := hid hr9
   have HQ9 := hid (HQ8.out.fr HX.out (by omega))
   have HF9 := hid (HF8.out.trans HX.out)
   clear hr9 hf9 HWD2 HQ8 HF8 z2 c2
   have q0 := HQ9.out.cell (i := 0) rfl
   have q1 := HQ9.out.cell (i := 1) rfl
   have y0 := HQ9.out.thaw 0
   have y1 := HQ9.out.thaw 1
   go_wp2
   have Q7 := HQ9.out.put2 (.string (ba ky)) (.slice a ln cap)
   have B7 := But.put2 w.heap.size w9 (.string (ba ky)) (.slice a ln cap)
   generalize (w9.setCell ⟨w.heap.size, 0, none⟩ (.string (ba ky))).setCell ⟨w.heap.size, 1, none⟩ (.slice a ln cap) = wa at *
   have e0 := Q7.cell (i := 0) rfl
   have e1 := Q7.cell (i := 1) rfl
   have hz := HZ.out
   exact bodyPost_ret (v := .agg #[.string (ba ky), .slice a ln cap]) (by simp [results, Tryz.results284, go_sem, e0, e1]) rfl (by
    rw [HK.out]
    exact ⟨_, n, rfl, HSL.out.fsh (fun b hb hlt => (B7.block b (by omega)).trans (HX.out.block b hlt (by omega))) (by omega) (by rw [B7.size]; exact HX.out.size), HR9.out.but B7 (by omega), But.fr HF9.out B7 (Nat.le_refl _)⟩)
  ·have hB : ((o : Int) == (32 : Int)) = false := by rw [beq_eq_false_iff_ne]; omega
   obtain ⟨R, HRR⟩ : ∃ R : St, Hid (R = U) := ⟨_, hid rfl⟩
   have HK := hid (z57 (o := o) (pf := fun S => z0c s.data.toList f h p [] S) (R := R) HA.out (by rw [HU.out, deep_no2 h32, HRR.out]))
   have HSR : Hid (Wf s.data.toList R) := hid (by rw [HRR.out]; exact HSU.out)
   have hgr : S.1 <= R.1 := by rw [HRR.out]; omega
   clear hb1 h32
   go_wp2_with fail
   refine HN1.out.mono ?_
   rintro e w5 ⟨rfl, hw4⟩
   have HR5 : Hid (RdAt w5 rb s o R) := hid (by rw [HRR.out]; exact HR3.out.same hw4)
   have HQ5 := hid (hw4.row HQ3.out)
   have HE5 := hid (HE3.out.same hw4)
   have HF5 := hid (HF3.out.trans (Fr.of_same hw4))
   have c2 := HR5.out.c2
   clear hw4 HN1 HR3 HQ3 HE3 HF3
   have HWD : Hid (Calls Tryz.prog 247 #[.pointer (some ⟨rb, 0, none⟩), .string ⟨#[123]⟩] w5 fun e w' => e = .returned (.tuple #[]) /\ RdAt w' rb s o (wordF s.data.toList [123] R) /\ Fr (· = rb) w5 w') := hid (z0n rb s ⟨#[123]⟩ o R w5 hs (by decide) HSR.out HR5.out)
   have HGR := hid (z08 s.data.toList [123] R)
   have HAD : Hid ((wordF s.data.toList [123] R).2 = 0 -> R.1 + 1 <= (wordF s.data.toList [123] R).1) := hid z4c
   obtain ⟨T, HT⟩ : ∃ T, Hid (wordF s.data.toList [123] R = T) := ⟨_, hid rfl⟩
   rw [HT.out] at HWD HGR HAD HK
   clear HR5
   go_wp2_with fail
   refine HWD.out.mono ?_
   rintro e w6 ⟨rfl, hr6, hf6⟩
   have HR6 := hid hr6
   have HQ6 := hid (HQ5.out.fr hf6 (by omega))
   have HE6 := hid (HE5.out.fr hf6)
   have HF6 := hid (HF5.out.trans hf6)
   have HST := hid (z1o HGR.out HSR.out)
   have hleT := z3p HST.out
   clear hr6 hf6 HWD HQ5 HE5 HF5
   have HCP := hid (HP h p rb s T (w6.setCell ⟨rb, 2, none⟩ (.int .i64 p)) hs HPF.out HST.out (fun e => by have := HAD.out e; omega) (HR6.out.set2 p) (HE6.out.fr (z0l 2 _)))
   have HGP := hid (z2p s.data.toList f h p [] T)
   have HQ7 : Hid (Row (w6.setCell ⟨rb, 2, none⟩ (.int .i64 p)) w.heap.size 284 [.string ⟨#[]⟩, .slice none 0 0]) := hid (HQ6.out.fr (z0l 2 _) (by omega))
   have HF7 : Hid (Fr (· = rb) w (w6.setCell ⟨rb, 2, none⟩ (.int .i64 p))) := hid (HF6.out.trans (z0l 2 _))
   have z2 := HR6.out.thaw 2
   have c2 := HR6.out.c2
   clear HQ6 HE6 HF6 HR6
   generalize z0c s.data.toList f h p [] T = r at *
   obtain ⟨kids, V⟩ := r
   simp only at HGP HK
   go_wp2_with fail
   generalize w6.setCell ⟨rb, 2, none⟩ (.int .i64 p) = w7 at *
   refine HCP.out.mono ?_
   rintro e w8 ⟨a, cap, n, rfl, hsl, hr8, hf8⟩
   simp only at hsl hr8
   have HSV := hid (z1o HGP.out HST.out)
   have HSL := hid hsl
   have HZ : Hid (w.heap.size < w7.heap.size) := hid HQ7.out.lt
   have HQ8 := hid (HQ7.out.fr hf8 (by omega))
   have HF8 := hid (HF7.out.trans hf8)
   have HR9 : Hid (RdAt (w8.setCell ⟨rb, 2, none⟩ (.int .i64 o)) rb s o V) := hid (hr8.set2 o)
   have HWD2 : Hid (Calls Tryz.prog 247 #[.pointer (some ⟨rb, 0, none⟩), .string ⟨#[125]⟩] (w8.setCell ⟨rb, 2, none⟩ (.int .i64 o)) fun e w' => e = .returned (.tuple #[]) /\ RdAt w' rb s o (wordF s.data.toList [125] V) /\ Fr (· = rb) (w8.setCell ⟨rb, 2, none⟩ (.int .i64 o)) w') := hid (z0n rb s ⟨#[125]⟩ o V _ hs (by decide) HSV.out HR9.out)
   clear z2 c2
   have z2 := hr8.thaw 2
   have c2 := hr8.c2
   obtain ⟨ln, HLN⟩ : ∃ ln, Hid (ln = kids.length) := ⟨_, hid rfl⟩
   rw [<- HLN.out] at HSL ⊢
   have hz7 : w7.heap.size <= w8.heap.size := hf8.size
   clear hsl hr8 hf8 HCP HQ7 HF7 HR9
   go_wp2_with fail
   refine HWD2.out.mono ?_
   rintro e w9 ⟨rfl, hr9, hf9⟩
   have HX := hid ((z0l (w := w8) (rb := rb) 2 (.int .i64 o)).trans hf9)
   have HR9 := hid hr9
   have HQ9 := hid (HQ8.out.fr HX.out (by omega))
   have HF9 := hid (HF8.out.trans HX.out)
   clear hr9 hf9 HWD2 HQ8 HF8 z2 c2
   have q0 := HQ9.out.cell (i := 0) rfl
   have q1 := HQ9.out.cell (i := 1) rfl
   have y0 := HQ9.out.thaw 0
   have y1 := HQ9.out.thaw 1
   go_wp2
   have Q7 := HQ9.out.put2 (.string (ba ky)) (.slice a ln cap)
   have B7 := But.put2 w.heap.size w9 (.string (ba ky)) (.slice a ln cap)
   generalize (w9.setCell ⟨w.heap.size, 0, none⟩ (.string (ba ky))).setCell ⟨w.heap.size, 1, none⟩ (.slice a ln cap) = wa at *
   have e0 := Q7.cell (i := 0) rfl
   have e1 := Q7.cell (i := 1) rfl
   have hz := HZ.out
   exact bodyPost_ret (v := .agg #[.string (ba ky), .slice a ln cap]) (by simp [results, Tryz.results284, go_sem, e0, e1]) rfl (by
    rw [HK.out]
    exact ⟨_, n, rfl, HSL.out.fsh (fun b hb hlt => (B7.block b (by omega)).trans (HX.out.block b hlt (by omega))) (by omega) (by rw [B7.size]; exact HX.out.size), HR9.out.but B7 (by omega), But.fr HF9.out B7 (Nat.le_refl _)⟩)
 | false =>
  rw [hb1] at HN1
  obtain ⟨R, HRR⟩ : ∃ R : St, Hid (R = U) := ⟨_, hid rfl⟩
  have HK := hid (z57 (o := o) (pf := fun S => z0c s.data.toList f h p [] S) (R := R) HA.out (by rw [HU.out, deep_no1 hb1, HRR.out]))
  have HSR : Hid (Wf s.data.toList R) := hid (by rw [HRR.out]; exact HSU.out)
  have hgr : S.1 <= R.1 := by rw [HRR.out]; omega
  clear hb1
  go_wp2_with fail
  refine HN1.out.mono ?_
  rintro e w5 ⟨rfl, hw4⟩
  have HR5 : Hid (RdAt w5 rb s o R) := hid (by rw [HRR.out]; exact HR3.out.same hw4)
  have HQ5 := hid (hw4.row HQ3.out)
  have HE5 := hid (HE3.out.same hw4)
  have HF5 := hid (HF3.out.trans (Fr.of_same hw4))
  clear hw4 HN1 HR3 HQ3 HE3 HF3
  have HWD : Hid (Calls Tryz.prog 247 #[.pointer (some ⟨rb, 0, none⟩), .string ⟨#[123]⟩] w5 fun e w' => e = .returned (.tuple #[]) /\ RdAt w' rb s o (wordF s.data.toList [123] R) /\ Fr (· = rb) w5 w') := hid (z0n rb s ⟨#[123]⟩ o R w5 hs (by decide) HSR.out HR5.out)
  have HGR := hid (z08 s.data.toList [123] R)
  have HAD : Hid ((wordF s.data.toList [123] R).2 = 0 -> R.1 + 1 <= (wordF s.data.toList [123] R).1) := hid z4c
  obtain ⟨T, HT⟩ : ∃ T, Hid (wordF s.data.toList [123] R = T) := ⟨_, hid rfl⟩
  rw [HT.out] at HWD HGR HAD HK
  clear HR5
  go_wp2_with fail
  refine HWD.out.mono ?_
  rintro e w6 ⟨rfl, hr6, hf6⟩
  have HR6 := hid hr6
  have HQ6 := hid (HQ5.out.fr hf6 (by omega))
  have HE6 := hid (HE5.out.fr hf6)
  have HF6 := hid (HF5.out.trans hf6)
  have HST := hid (z1o HGR.out HSR.out)
  have hleT := z3p HST.out
  clear hr6 hf6 HWD HQ5 HE5 HF5
  have HCP := hid (HP h p rb s T (w6.setCell ⟨rb, 2, none⟩ (.int .i64 p)) hs HPF.out HST.out (fun e => by have := HAD.out e; omega) (HR6.out.set2 p) (HE6.out.fr (z0l 2 _)))
  have HGP := hid (z2p s.data.toList f h p [] T)
  have HQ7 : Hid (Row (w6.setCell ⟨rb, 2, none⟩ (.int .i64 p)) w.heap.size 284 [.string ⟨#[]⟩, .slice none 0 0]) := hid (HQ6.out.fr (z0l 2 _) (by omega))
  have HF7 : Hid (Fr (· = rb) w (w6.setCell ⟨rb, 2, none⟩ (.int .i64 p))) := hid (HF6.out.trans (z0l 2 _))
  have z2 := HR6.out.thaw 2
  have c2 := HR6.out.c2
  clear HQ6 HE6 HF6 HR6
  generalize z0c s.data.toList f h p [] T = r at *
  obtain ⟨kids, V⟩ := r
  simp only at HGP HK
  go_wp2_with fail
  generalize w6.setCell ⟨rb, 2, none⟩ (.int .i64 p) = w7 at *
  refine HCP.out.mono ?_
  rintro e w8 ⟨a, cap, n, rfl, hsl, hr8, hf8⟩
  simp only at hsl hr8
  have HSV := hid (z1o HGP.out HST.out)
  have HSL := hid hsl
  have HZ : Hid (w.heap.size < w7.heap.size) := hid HQ7.out.lt
  have HQ8 := hid (HQ7.out.fr hf8 (by omega))
  have HF8 := hid (HF7.out.trans hf8)
  have HR9 : Hid (RdAt (w8.setCell ⟨rb, 2, none⟩ (.int .i64 o)) rb s o V) := hid (hr8.set2 o)
  have HWD2 : Hid (Calls Tryz.prog 247 #[.pointer (some ⟨rb, 0, none⟩), .string ⟨#[125]⟩] (w8.setCell ⟨rb, 2, none⟩ (.int .i64 o)) fun e w' => e = .returned (.tuple #[]) /\ RdAt w' rb s o (wordF s.data.toList [125] V) /\ Fr (· = rb) (w8.setCell ⟨rb, 2, none⟩ (.int .i64 o)) w') := hid (z0n rb s ⟨#[125]⟩ o V _ hs (by decide) HSV.out HR9.out)
  clear z2 c2
  have z2 := hr8.thaw 2
  have c2 := hr8.c2
  obtain ⟨ln, HLN⟩ : ∃ ln, Hid (ln = kids.length) := ⟨_, hid rfl⟩
  rw [<- HLN.out] at HSL ⊢
  have hz7 : w7.heap.size <= w8.heap.size := hf8.size
  clear hsl hr8 hf8 HCP HQ7 HF7 HR9
  go_wp2_with fail
  refine HWD2.out.mono ?_
  rintro e w9 ⟨rfl, hr9, hf9⟩
  have HX := hid ((z0l (w := w8) (rb := rb) 2 (.int .i64 o)).trans hf9)
  have HR9 := hid hr9
  have HQ9 := hid (HQ8.out.fr HX.out (by omega))
  have HF9 := hid (HF8.out.trans HX.out)
  clear hr9 hf9 HWD2 HQ8 HF8 z2 c2
  have q0 := HQ9.out.cell (i := 0) rfl
  have q1 := HQ9.out.cell (i := 1) rfl
  have y0 := HQ9.out.thaw 0
  have y1 := HQ9.out.thaw 1
  go_wp2
  have Q7 := HQ9.out.put2 (.string (ba ky)) (.slice a ln cap)
  have B7 := But.put2 w.heap.size w9 (.string (ba ky)) (.slice a ln cap)
  generalize (w9.setCell ⟨w.heap.size, 0, none⟩ (.string (ba ky))).setCell ⟨w.heap.size, 1, none⟩ (.slice a ln cap) = wa at *
  have e0 := Q7.cell (i := 0) rfl
  have e1 := Q7.cell (i := 1) rfl
  have hz := HZ.out
  exact bodyPost_ret (v := .agg #[.string (ba ky), .slice a ln cap]) (by simp [results, Tryz.results284, go_sem, e0, e1]) rfl (by
   rw [HK.out]
   exact ⟨_, n, rfl, HSL.out.fsh (fun b hb hlt => (B7.block b (by omega)).trans (HX.out.block b hlt (by omega))) (by omega) (by rw [B7.size]; exact HX.out.size), HR9.out.but B7 (by omega), But.fr HF9.out B7 (Nat.le_refl _)⟩)
end Go.Proofs.YtdkkkeoicekdgaaGreatDoor

end
