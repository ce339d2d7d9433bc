/- The reader: a span, spans. -/
import Derived.Test.YtdnedbcmgkilaaaGreatDoorZSURd2

section

namespace Go.Proofs.YtdnedbcmgkilaaaGreatDoor.Pu
set_option maxHeartbeats 3200000
set_option maxRecDepth 100000
open Go.Lib (hid)
open Go.RowKit
theorem span_yes {l : List UInt8} {S : St} (h : nextF l [46] (numF l S).2 = true) : spanF l S = (⟨(numF l S).1, (numF l (wordF l [46, 46] (numF l S).2)).1⟩, (numF l (wordF l [46, 46] (numF l S).2)).2) := by unfold spanF; rw [if_pos h]
theorem span_no {l : List UInt8} {S : St} (h : nextF l [46] (numF l S).2 = false) : spanF l S = (⟨(numF l S).1, (numF l S).1⟩, (numF l S).2) := by unfold spanF; rw [h]; rfl
theorem Row.put2 {w : World} {b : Nat} {t : TypeId} {x0 x1 : Value} (h : Row w b t [x0, x1]) (a c : Value) : Row ((w.setCell ⟨b, 0, none⟩ a).setCell ⟨b, 1, none⟩ c) b t [a, c] := (h.set 0 a).set 1 c
theorem Row.put3 {w : World} {b : Nat} {t : TypeId} {x0 x1 x2 : Value} (h : Row w b t [x0, x1, x2]) (a c d : Value) : Row (((w.setCell ⟨b, 0, none⟩ a).setCell ⟨b, 1, none⟩ c).setCell ⟨b, 2, none⟩ d) b t [a, c, d] := ((h.set 0 a).set 1 c).set 2 d
theorem But.fr {g : Nat} {w w1 w' : World} {X : Nat -> Prop} (h : Fr X w w1) (k : But g w1 w') (hg : w.heap.size <= g) : Fr X w w' :=
 ⟨k.os.trans h.os, k.tape.trans h.tape, k.output.trans h.output, by rw [k.size]; exact h.size, fun i hi hx => (k.block i (by omega)).trans (h.block i hi hx)⟩
theorem But.put2 (g : Nat) (w : World) (a b : Value) : But g w ((w.setCell ⟨g, 0, none⟩ a).setCell ⟨g, 1, none⟩ b) := ((But.refl g w).set 0 a).set 1 b
theorem But.put3 (g : Nat) (w : World) (a b c : Value) : But g w (((w.setCell ⟨g, 0, none⟩ a).setCell ⟨g, 1, none⟩ b).setCell ⟨g, 2, none⟩ c) := (((But.refl g w).set 0 a).set 1 b).set 2 c
theorem RdAt.but {w w' : World} {rb g : Nat} {s : BA} {S : St} (h : RdAt w rb s S) (hb : But g w w') (hg : rb ≠ g) : RdAt w' rb s S := h.keep (hb.block rb hg)
theorem zel (X : Nat -> Prop) (w : World) (o : Obj) : Fr X w (w.alloc o) := (Fr.refl X w).alloc o
theorem Row.fr {w w' : World} {X : Nat -> Prop} {b : Nat} {t : TypeId} {cs : List Value} (h : Row w b t cs) (hf : Fr X w w') (hx : ¬ X b) : Row w' b t cs := h.keep (hf.block b h.lt hx)
theorem zds (rb : Nat) (s : BA) (S : St) (w : World) (hs : s.size <= 400) (hS : S.1 <= s.size) (hR : RdAt w rb s S) :
  Calls Tryz.prog 258 #[.pointer (some ⟨rb, 0, none⟩)] w fun e w' => e = .returned (.agg #[.int .i64 (spanF s.data.toList S).1.lo, .int .i64 (spanF s.data.toList S).1.hi]) /\ RdAt w' rb s (spanF s.data.toList S).2 /\ Fr (· = rb) w w' := by
 have HR := hid hR
 have hlr := hR.lt
 have HT := hid (z83 s.data.toList S)
 clear hR
 have HN1 := hid (z2q rb s S _ hs hS (HR.out.alloc (.cells #[.int .i64 0, .int .i64 0] 266)))
 go_enter Tryz.func258, Tryz.ntmps258
 go_wp2_with fail
 refine HN1.out.mono ?_
 rintro e w1 ⟨rfl, hr1, hf1⟩
 have HQ1 := hid ((z04 w #[.int .i64 0, .int .i64 0] 266).fr hf1 (by omega))
 have HF1 := hid ((zel (· = rb) w _).trans hf1)
 have HR1 := hid hr1
 clear hr1 hf1 HN1
 have HTS : Hid ((numF s.data.toList S).2.1 <= s.size) := hid (by have := HT.out.2 (by simpa using hS); simpa using this)
 have HN2 : Hid (Calls Tryz.prog 249 #[.pointer (some ⟨rb, 0, none⟩), .string ⟨#[46]⟩] w1 fun e w' => e = .returned (.bool (nextF s.data.toList [46] (numF s.data.toList S).2)) /\ Same w1 w') := hid (z13 rb s ⟨#[46]⟩ _ w1 hs HTS.out HR1.out)
 have hE0 := fun h => span_no (l := s.data.toList) (S := S) h
 have hE1 := fun h => span_yes (l := s.data.toList) (S := S) h
 generalize numF s.data.toList S = r at *
 obtain ⟨n, T⟩ := r
 simp only at HTS HR1 HN2 hE0 hE1
 have HE0 := hid hE0
 have HE1 := hid hE1
 clear hE0 hE1
 go_wp2_with fail
 refine HN2.out.mono ?_
 rintro e w2 ⟨rfl, hw2⟩
 have HQ2 := hid (hw2.row HQ1.out)
 have HF2 := hid (HF1.out.trans (Fr.of_same hw2))
 have HR2 := hid (HR1.out.same hw2)
 clear HN2 hw2 HQ1
 cases hb : nextF s.data.toList [46] T with
 | false =>
  have HE := hid (HE0.out hb)
  clear hb HE0 HE1
  have d0 := HQ2.out.cell (i := 0) rfl
  have d1 := HQ2.out.cell (i := 1) rfl
  have z0 := HQ2.out.thaw 0
  have z1 := HQ2.out.thaw 1
  go_wp2
  have Q3 := HQ2.out.put2 (.int .i64 n) (.int .i64 n)
  have B3 := But.put2 w.heap.size w2 (.int .i64 n) (.int .i64 n)
  generalize ((w2.setCell ⟨w.heap.size, 0, none⟩ (.int .i64 n)).setCell ⟨w.heap.size, 1, none⟩ (.int .i64 n)) = w3 at Q3 B3 ⊢
  have e0 := Q3.cell (i := 0) rfl
  have e1 := Q3.cell (i := 1) rfl
  exact bodyPost_ret (v := .agg #[.int .i64 n, .int .i64 n]) (by simp [results, Tryz.results258, go_sem, e0, e1]) rfl ⟨by rw [HE.out], by rw [HE.out]; exact HR2.out.but B3 (by omega), B3.fr HF2.out (Nat.le_refl _)⟩
 | true =>
  have HE := hid (HE1.out hb)
  have HG := hid (z06 s.data.toList [46, 46] T)
  have HTW : Hid ((wordF s.data.toList [46, 46] T).1 <= s.size) := hid (by have := HG.out.2 (by simpa using HTS.out); simpa using this)
  have HWD : Hid (Calls Tryz.prog 244 #[.pointer (some ⟨rb, 0, none⟩), .string ⟨#[46, 46]⟩] w2 fun e w' => e = .returned (.tuple #[]) /\ RdAt w' rb s (wordF s.data.toList [46, 46] T) /\ Fr (· = rb) w2 w') := hid (z0i rb s ⟨#[46, 46]⟩ T w2 hs (by decide) HTS.out HR2.out)
  clear hb HE0 HE1
  go_wp2_with fail
  refine HWD.out.mono ?_
  rintro e w3 ⟨rfl, hr3, hf3⟩
  have HQ3 := hid (HQ2.out.fr hf3 (by omega))
  have HF3 := hid (HF2.out.trans hf3)
  have HN3 := hid (z2q rb s _ w3 hs HTW.out hr3)
  clear hr3 hf3 HWD HQ2 HF2
  go_wp2_with fail
  refine HN3.out.mono ?_
  rintro e w4 ⟨rfl, hr4, hf4⟩
  have HQ4 := hid (HQ3.out.fr hf4 (by omega))
  have HF4 := hid (HF3.out.trans hf4)
  have HR4 := hid hr4
  clear hr4 hf4 HN3 HQ3 HF3
  generalize numF s.data.toList (wordF s.data.toList [46, 46] T) = q at *
  obtain ⟨m, U⟩ := q
  simp only at HE HR4 ⊢
  have d0 := HQ4.out.cell (i := 0) rfl
  have d1 := HQ4.out.cell (i := 1) rfl
  have z0 := HQ4.out.thaw 0
  have z1 := HQ4.out.thaw 1
  go_wp2
  have Q3 := HQ4.out.put2 (.int .i64 n) (.int .i64 m)
  have B3 := But.put2 w.heap.size w4 (.int .i64 n) (.int .i64 m)
  generalize ((w4.setCell ⟨w.heap.size, 0, none⟩ (.int .i64 n)).setCell ⟨w.heap.size, 1, none⟩ (.int .i64 m)) = w5 at Q3 B3 ⊢
  have e0 := Q3.cell (i := 0) rfl
  have e1 := Q3.cell (i := 1) rfl
  exact bodyPost_ret (v := .agg #[.int .i64 n, .int .i64 m]) (by simp [results, Tryz.results258, go_sem, e0, e1]) rfl ⟨by rw [HE.out], by rw [HE.out]; exact HR4.out.but B3 (by omega), B3.fr HF4.out (Nat.le_refl _)⟩
end Go.Proofs.YtdnedbcmgkilaaaGreatDoor.Pu

end

section

namespace Go.Proofs.YtdnedbcmgkilaaaGreatDoor.Pu
set_option maxHeartbeats 3200000
set_option maxRecDepth 100000
open Go.Lib (hid)
open Go.RowKit
theorem zfl {l : List UInt8} {f : Nat} {xs : List Sp} {S : St} (h : nextF l [44] S = true) (hf : l.length <= f + S.1) : ∃ f', f = f' + 1 /\ z3f l f xs S = z3f l f' (xs ++ [(spanF l (wordF l [44] S)).1]) (spanF l (wordF l [44] S)).2 := by
 have := z0l (z77 h).2
 obtain ⟨f', rfl⟩ : ∃ f', f = f' + 1 := ⟨f - 1, by omega⟩
 exact ⟨f', rfl, by rw [z3f, if_pos h]⟩
theorem zai {l : List UInt8} {f : Nat} {xs : List Sp} {S : St} (h : nextF l [44] S = false) : z3f l f xs S = (xs, S) := by
 cases f with
 | zero => rw [z3f]
 | succ f => rw [z3f, h]; rfl
structure SpU (s : BA) (rb : Nat) (w wr : World) (v : Value) (xs : List Sp) (vs : List Value) (T : St) : Prop where
 own : wr.ownsRow w.heap.size 266 2 v xs.length vs
 cat : Cat 2 CS xs vs
 rd : RdAt wr rb s T
 fr : Fr (· = rb) w wr
 le : T.1 <= s.size
 few : xs.length <= T.1 + 1
theorem z4e {w w4 w5 : World} {rb base size n : Nat} {e : TypeId} {v : Value} {vs : List Value} {o : Obj} (hg : (w4.alloc o).grownBy w5 v.ownBlock) (hf : Fr (· = rb) w w4) (ho : w4.ownsRow base e size v n vs) (hb : w.heap.size <= base) : Fr (· = rb) w w5 :=
 (hf.alloc o).grown hg (fun g hg => .inl (Nat.le_trans hb (ho.lt g hg).1))
theorem z9i {w4 w5 : World} {rb base size n : Nat} {e : TypeId} {v : Value} {vs : List Value} {o : Obj} {s : BA} {T : St} (hg : (w4.alloc o).grownBy w5 v.ownBlock) (hr : RdAt w4 rb s T) (ho : w4.ownsRow base e size v n vs) (hb : rb < base) : RdAt w5 rb s T :=
 (hr.alloc o).keep (hg.block rb (hr.alloc o).lt (fun e => by have := (ho.lt rb e.symm).1; omega))
theorem z56 (rb : Nat) (s : BA) (S : St) (w : World) (hs : s.size <= 400) (hS : S.1 <= s.size) (hR : RdAt w rb s S) :
  Calls Tryz.prog 253 #[.pointer (some ⟨rb, 0, none⟩)] w fun e w' => ∃ a cap, e = .returned (.slice a (z2b s.data.toList S).1.length cap) /\ SlS w' (Ty [266] w') (.slice a (z2b s.data.toList S).1.length cap) (z2b s.data.toList S).1 /\ RdAt w' rb s (z2b s.data.toList S).2 /\ Fr (· = rb) w w' := by
 obtain ⟨i0, hi, hz0, hz1, hz2⟩ := info_parts info55
 have HR := hid hR
 have hlr := hR.lt
 have HG0 := hid (z9j s.data.toList S)
 have HS0 : Hid (z2b s.data.toList S = z3f s.data.toList s.data.toList.length [(spanF s.data.toList S).1] (spanF s.data.toList S).2) := hid rfl
 have HN1 := hid (zds rb s S w hs hS hR)
 clear hR
 go_enter Tryz.func253, Tryz.ntmps253
 go_wp2_with fail
 refine HN1.out.mono ?_
 rintro e w1 ⟨rfl, hr1, hf1⟩
 have HR1 := hid hr1
 have HF1 := hid hf1
 clear hr1 hf1 HN1
 generalize spanF s.data.toList S = r at *
 obtain ⟨⟨lo, hi1⟩, T0⟩ := r
 simp only at HR1 HS0 HG0 ⊢
 have HLT : Hid (T0.1 <= s.size) := hid (by have := HG0.out.2 (by simpa using hS); simpa using this)
 have HU0 : Hid (SpU s rb w (w1.alloc (.cells #[.int .i64 lo, .int .i64 hi1] 266)) (.slice (some ⟨w1.heap.size, 0, none⟩) 1 1) [⟨lo, hi1⟩] [.int .i64 lo, .int .i64 hi1] T0) := hid
  ⟨z2h w1 #[.int .i64 lo, .int .i64 hi1] 266 w.heap.size 1 2 rfl HF1.out.size (by decide), Cat.one rfl rfl, HR1.out.alloc _, HF1.out.alloc _, HLT.out, by simp⟩
 go_wp2
 go_loopw [3] (fun v wr => ∃ (xs : List Sp) (vs : List Value) (g cap : Nat) (T : St) (f : Nat), v = .slice (some ⟨g, 0, none⟩) xs.length cap /\ Hid (SpU s rb w wr (.slice (some ⟨g, 0, none⟩) xs.length cap) xs vs T) /\ Hid (z2b s.data.toList S = z3f s.data.toList f xs T) /\ Hid (s.data.toList.length <= f + T.1)) (fun _ wr => plc s.size rb wr)
 case atStart => exact ⟨_, _, _, _, _, _, rfl, HU0, HS0, hid (by omega)⟩
 case round =>
  obtain ⟨xs, vs, g, cap, T, f, rfl, HU, HS, Hf⟩ := hrel
  have HM := hid (z2c (m := s.size) HU.out.rd)
  have HN2 : Hid (Calls Tryz.prog 249 #[.pointer (some ⟨rb, 0, none⟩), .string ⟨#[44]⟩] wr fun e w' => e = .returned (.bool (nextF s.data.toList [44] T)) /\ Same wr w') := hid (z13 rb s ⟨#[44]⟩ _ wr hs HU.out.le HU.out.rd)
  clear HU0 HS0 HLT HR1 HF1 HG0 HR
  obtain ⟨n, HL⟩ : ∃ n, Hid (n = xs.length) := ⟨_, hid rfl⟩
  rw [<- HL.out]
  go_wp2_with fail
  refine HN2.out.mono ?_
  rintro e w2 ⟨rfl, hw2⟩
  have HU2 : Hid (SpU s rb w w2 (.slice (some ⟨g, 0, none⟩) xs.length cap) xs vs T) := hid ⟨z0a HU.out.own (fun _ _ => by rw [hw2.heap]), HU.out.cat, HU.out.rd.same hw2, HU.out.fr.trans (Fr.of_same hw2), HU.out.le, HU.out.few⟩
  clear hw2 HN2 HU
  cases hb : nextF s.data.toList [44] T with
  | false =>
   have HE := hid (HS.out.trans (zai hb))
   clear hb
   go_wp2
   go_ret
   have := Sl.of_owns HU2.out.own HU2.out.cat (S := Ty [266] w2) (fun b cs z h => ⟨cs, 266, z, h, by simp⟩)
   rw [HE.out]
   refine ⟨_, cap, by rw [HL.out]; rfl, this, HU2.out.rd, HU2.out.fr⟩
  | true =>
   obtain ⟨f', hf', hE⟩ := zfl (xs := xs) hb Hf.out
   have HE := hid (HS.out.trans hE)
   have HW1 := hid (zc5 (u := []) hb)
   have HG1 := hid (z06 s.data.toList [44] T)
   have HTW : Hid ((wordF s.data.toList [44] T).1 <= s.size) := hid (by have := HG1.out.2 (by simpa using HU2.out.le); simpa using this)
   have HG2 := hid (z9j s.data.toList (wordF s.data.toList [44] T))
   have HTX : Hid ((spanF s.data.toList (wordF s.data.toList [44] T)).2.1 <= s.size) := hid (by have := HG2.out.2 (by simpa using HTW.out); simpa using this)
   have HWD : Hid (Calls Tryz.prog 244 #[.pointer (some ⟨rb, 0, none⟩), .string ⟨#[44]⟩] w2 fun e w' => e = .returned (.tuple #[]) /\ RdAt w' rb s (wordF s.data.toList [44] T) /\ Fr (· = rb) w2 w') := hid (z0i rb s ⟨#[44]⟩ T w2 hs (by decide) HU2.out.le HU2.out.rd)
   clear hb hE HS
   go_wp2_with fail
   refine HWD.out.mono ?_
   rintro e w3 ⟨rfl, hr3, hf3⟩
   have HF3 := hid hf3
   have HN3 := hid (zds rb s _ w3 hs HTW.out hr3)
   clear hr3 hf3 HWD
   go_wp2_with fail
   refine HN3.out.mono ?_
   rintro e w4 ⟨rfl, hr4, hf4⟩
   have HF4 := hid (HF3.out.trans hf4)
   have HO4 : Hid (w4.ownsRow w.heap.size 266 2 (.slice (some ⟨g, 0, none⟩) n cap) n vs) := hid (by rw [HL.out]; exact z0a HU2.out.own (fun k hk => HF4.out.block k (HU2.out.own.lt k hk).2 (by have := (HU2.out.own.lt k hk).1; omega)))
   have HR4 := hid hr4
   have HZ4 : Hid (w.heap.size <= w4.heap.size) := hid (HU2.out.fr.trans HF4.out).size
   have HNF : Hid (n <= 1000) := hid (by have := HU2.out.few; have := HU2.out.le; have := HL.out; omega)
   clear hr4 hf4 HN3 HF3
   generalize spanF s.data.toList (wordF s.data.toList [44] T) = q at *
   obtain ⟨⟨lo2, hi2⟩, T2⟩ := q
   simp only at HR4 HE HTX HG2 ⊢
   have hz4 := HZ4.out
   have hnf := HNF.out
   go_wp2_with (at_builtin; refine wpList_append_lies _ rfl _ _ 243 rfl w.heap.size 266 i0 _ 2 16 Tryz.underlying243 hi hz0 hz1 hz2 rfl (by decide) _ _ _ rfl (HO4.out.alloc _) _ 1 1 [.int .i64 lo2, .int .i64 hi2] rfl rfl (z0s _ #[.int .i64 lo2, .int .i64 hi2] _ rfl) (by simp [Value.oneCell']) (by decide) (by unfold maxLen; omega) (by omega) (by simp; omega) (w4.heap.size + 1) (by simp) ?_; intro g5 c5 w5 hown5 hgrow5 _ _; have HO5 := hid hown5; have HG5 := hid hgrow5; clear hown5 hgrow5)
   have HU5 : Hid (SpU s rb w w5 (.slice (some ⟨g5, 0, none⟩) (xs ++ [(⟨lo2, hi2⟩ : Sp)]).length c5) (xs ++ [(⟨lo2, hi2⟩ : Sp)]) (vs ++ [.int .i64 lo2, .int .i64 hi2]) T2) := hid
    ⟨by rw [List.length_append, <- HL.out]; exact HO5.out, Cat.snoc (C := CS) (x := ⟨lo2, hi2⟩) (cs := [.int .i64 lo2, .int .i64 hi2]) rfl rfl HU2.out.cat, z9i HG5.out HR4.out HO4.out hlr, z4e HG5.out (HU2.out.fr.trans HF4.out) HO4.out (Nat.le_refl _), HTX.out, by have := HU2.out.few; have := HW1.out; have := HG2.out.1; rw [List.length_append]; simp only [List.length_cons, List.length_nil]; omega⟩
   go_roundw
   case rel => exact ⟨_, _, g5, c5, T2, f', by rw [List.length_append, <- HL.out]; rfl, HU5, HE, hid (by have := Hf.out; have h1 := HW1.out; have h2 := HG2.out.1; omega)⟩
   case measure =>
    have h1 := z2c (m := s.size) HU5.out.rd
    rw [HM.out, h1]
    have h2 := HW1.out; have h3 := HG2.out.1; have h4 := HTX.out; omega
end Go.Proofs.YtdnedbcmgkilaaaGreatDoor.Pu

end

section

namespace Go.Proofs.YtdnedbcmgkilaaaGreatDoor.Pu
set_option maxHeartbeats 6400000
set_option maxRecDepth 100000
open Go.Lib (hid)
open Go.RowKit
theorem KpT.of_but {T : List Nat} {g : Nat} {w w' : World} {t : TypeId} {cs : List Value} (h : But g w w') (hg : Row w g t cs) (ht : t ∉ T) : KpT T w w' := fun b hb => h.block b (hb.ne hg ht)
theorem zdv {l : List UInt8} {S S1 U V X : St} {m : Nat} {ng : Bool} {sp : List Sp} (h1 : wordF l [105] S = S1) (h2 : modF l S1 = (m, U)) (h3 : negF l U = (ng, V)) (h4 : z2b l V = (sp, X)) : relF l S = (⟨m, ng, sp⟩, X) := by
 unfold relF; rw [h1, h2, h3, h4]
theorem mod_yes {l : List UInt8} {S : St} (h : nextF l [32, 37] S = true) : modF l S = numF l (wordF l [32, 37, 32] S) := by unfold modF; rw [if_pos h]
theorem mod_no {l : List UInt8} {S : St} (h : nextF l [32, 37] S = false) : modF l S = (0, S) := by unfold modF; rw [h]; rfl
theorem zhs {l : List UInt8} {S : St} (h : nextF l [32, 33] S = true) : negF l S = (true, wordF l [32, 33, 61, 32] S) := by unfold negF; rw [if_pos h]
theorem zht {l : List UInt8} {S : St} (h : nextF l [32, 33] S = false) : negF l S = (false, wordF l [32, 61, 32] S) := by unfold negF; rw [h]; rfl
theorem zc8 {l : List UInt8} {s : BA} {A B : St} (hl : l = s.data.toList) (h : Ge l A B) (ha : A.1 <= s.size) : B.1 <= s.size := by subst hl; have := h.2 (by simpa using ha); simpa using this
theorem z63 (rb : Nat) (s : BA) (S : St) (w : World) (hs : s.size <= 400) (hS : S.1 <= s.size) (hR : RdAt w rb s S) :
  Calls Tryz.prog 248 #[.pointer (some ⟨rb, 0, none⟩)] w fun e w' => ∃ a cap, e = .returned (.agg #[.int .i64 (relF s.data.toList S).1.m, .bool (relF s.data.toList S).1.neg, .slice a (relF s.data.toList S).1.sp.length cap]) /\ SlS w' (Ty [266] w') (.slice a (relF s.data.toList S).1.sp.length cap) (relF s.data.toList S).1.sp /\ RdAt w' rb s (relF s.data.toList S).2 /\ Fr (· = rb) w w' := by
 have HR := hid hR
 have hlr := hR.lt
 clear hR
 have HW0 : Hid (∃ w0, w0 = (w.alloc (.cells #[.int .i64 0, .bool false, .slice none 0 0] 245)).alloc (.cells #[.int .i64 0, .bool false, .slice none 0 0] 245)) := hid ⟨_, rfl⟩
 have HWD : Hid (Calls Tryz.prog 244 #[.pointer (some ⟨rb, 0, none⟩), .string ⟨#[105]⟩] ((w.alloc (.cells #[.int .i64 0, .bool false, .slice none 0 0] 245)).alloc (.cells #[.int .i64 0, .bool false, .slice none 0 0] 245)) fun e w' => e = .returned (.tuple #[]) /\ RdAt w' rb s (wordF s.data.toList [105] S) /\ Fr (· = rb) ((w.alloc (.cells #[.int .i64 0, .bool false, .slice none 0 0] 245)).alloc (.cells #[.int .i64 0, .bool false, .slice none 0 0] 245)) w') := hid (z0i rb s ⟨#[105]⟩ S _ hs (by decide) hS ((HR.out.alloc _).alloc _))
 have HGW := hid (z06 s.data.toList [105] S)
 clear HW0
 go_enter Tryz.func248, Tryz.ntmps248
 go_wp2_with fail
 refine HWD.out.mono ?_
 rintro e w1 ⟨rfl, hr, hf⟩
 have HA1 := hid (((z04 w #[.int .i64 0, .bool false, .slice none 0 0] 245).alloc (.cells #[.int .i64 0, .bool false, .slice none 0 0] 245)).fr hf (by omega))
 have HB1 : Hid (Row w1 (w.heap.size + 1) 245 [.int .i64 0, .bool false, .slice none 0 0]) := hid (by
  have h := (z04 (w.alloc (.cells #[.int .i64 0, .bool false, .slice none 0 0] 245)) #[.int .i64 0, .bool false, .slice none 0 0] 245).fr hf (by simp; omega)
  rw [World.size_alloc] at h; exact h)
 have HF1 := hid (((zel (· = rb) w _).alloc _).trans hf)
 have HR1 := hid hr
 have HL1 := hid (zc8 rfl HGW.out hS)
 clear hr hf HWD HGW HR
 obtain ⟨S1, HS1⟩ : ∃ S1, Hid (wordF s.data.toList [105] S = S1) := ⟨_, hid rfl⟩
 rw [HS1.out] at HR1 HL1
 have HN1 : Hid (Calls Tryz.prog 249 #[.pointer (some ⟨rb, 0, none⟩), .string ⟨#[32, 37]⟩] w1 fun e w' => e = .returned (.bool (nextF s.data.toList [32, 37] S1)) /\ Same w1 w') := hid (z13 rb s ⟨#[32, 37]⟩ _ w1 hs HL1.out HR1.out)
 go_wp2_with fail
 refine HN1.out.mono ?_
 rintro e w2 ⟨rfl, hw⟩
 have HA2 := hid (hw.row HA1.out)
 have HB2 := hid (hw.row HB1.out)
 have HF2 := hid (HF1.out.trans (Fr.of_same hw))
 have HR2 := hid (HR1.out.same hw)
 clear hw HN1 HA1 HB1 HF1 HR1
 cases hb : nextF s.data.toList [32, 37] S1 with
 | true =>
  have HM0 := hid (mod_yes hb)
  clear hb
  have HWD : Hid (Calls Tryz.prog 244 #[.pointer (some ⟨rb, 0, none⟩), .string ⟨#[32, 37, 32]⟩] w2 fun e w' => e = .returned (.tuple #[]) /\ RdAt w' rb s (wordF s.data.toList [32, 37, 32] S1) /\ Fr (· = rb) w2 w') := hid (z0i rb s ⟨#[32, 37, 32]⟩ S1 w2 hs (by decide) HL1.out HR2.out)
  have HGW := hid (z06 s.data.toList [32, 37, 32] S1)
  go_wp2_with fail
  refine HWD.out.mono ?_
  rintro e w3 ⟨rfl, hr, hf⟩
  have HA3 := hid (HA2.out.fr hf (by omega))
  have HB3 := hid (HB2.out.fr hf (by omega))
  have HF3 := hid (HF2.out.trans hf)
  have HL3 := hid (zc8 rfl HGW.out HL1.out)
  have HNU := hid (z2q rb s _ w3 hs HL3.out hr)
  have HGN := hid (zc8 rfl (z83 s.data.toList (wordF s.data.toList [32, 37, 32] S1)) HL3.out)
  clear hr hf HWD HGW HA2 HB2 HF2 HR2
  go_wp2_with fail
  refine HNU.out.mono ?_
  rintro e w4 ⟨rfl, hr, hf⟩
  have HA4 := hid (HA3.out.fr hf (by omega))
  have HB4 := hid (HB3.out.fr hf (by omega))
  have HF4 := hid (HF3.out.trans hf)
  have HR4 := hid hr
  clear hr hf HNU HA3 HB3 HF3
  obtain ⟨m, U, HM1⟩ : ∃ m U, Hid (numF s.data.toList (wordF s.data.toList [32, 37, 32] S1) = (m, U)) := ⟨_, _, hid rfl⟩
  rw [HM1.out] at HR4 HGN ⊢
  have HM := hid (HM0.out.trans HM1.out)
  simp only at HR4 HGN ⊢
  have d0 := HB4.out.cell (i := 0) rfl
  have z0 := HB4.out.thaw 0
  have HB5 := hid (HB4.out.set 0 (.int .i64 m))
  have BB := (But.refl (w.heap.size + 1) w4).set 0 (.int .i64 m)
  have HA5 := hid (BB.row HA4.out (by omega))
  have HF5 := hid (BB.fr HF4.out (by omega))
  have HR5 := hid (HR4.out.but BB (by omega))
  have HL5 := HGN
  clear BB HA4 HB4 HF4 HR4 HM0 HM1 HGN HL3
  have HN5 : Hid (Calls Tryz.prog 249 #[.pointer (some ⟨rb, 0, none⟩), .string ⟨#[32, 33]⟩] (w4.setCell ⟨w.heap.size + 1, 0, none⟩ (.int .i64 m)) fun e w' => e = .returned (.bool (nextF s.data.toList [32, 33] U)) /\ Same (w4.setCell ⟨w.heap.size + 1, 0, none⟩ (.int .i64 m)) w') := hid (z13 rb s ⟨#[32, 33]⟩ _ _ hs HL5.out HR5.out)
  go_wp2_with fail
  refine HN5.out.mono ?_
  rintro e w6 ⟨rfl, hw⟩
  have HA6 := hid (hw.row HA5.out)
  have HB6 := hid (hw.row HB5.out)
  have HF6 := hid (HF5.out.trans (Fr.of_same hw))
  have HR6 := hid (HR5.out.same hw)
  clear hw HN5 HA5 HB5 HF5 HR5
  cases hb : nextF s.data.toList [32, 33] U with
  | true =>
   have HG := hid (zhs hb)
   clear hb
   have HWD : Hid (Calls Tryz.prog 244 #[.pointer (some ⟨rb, 0, none⟩), .string ⟨#[32, 33, 61, 32]⟩] w6 fun e w' => e = .returned (.tuple #[]) /\ RdAt w' rb s (wordF s.data.toList [32, 33, 61, 32] U) /\ Fr (· = rb) w6 w') := hid (z0i rb s ⟨#[32, 33, 61, 32]⟩ U w6 hs (by decide) HL5.out HR6.out)
   have HGW := hid (z06 s.data.toList [32, 33, 61, 32] U)
   go_wp2_with fail
   refine HWD.out.mono ?_
   rintro e w7 ⟨rfl, hr, hf⟩
   have HA7 := hid (HA6.out.fr hf (by omega))
   have HB7 := hid (HB6.out.fr hf (by omega))
   have HF7 := hid (HF6.out.trans hf)
   have HL7 := hid (zc8 rfl HGW.out HL5.out)
   have HR7 := hid hr
   clear hr hf HWD HGW HA6 HB6 HF6 HR6
   have d1 := HB7.out.cell (i := 1) rfl
   have z1 := HB7.out.thaw 1
   have HB8 := hid (HB7.out.set 1 (.bool true))
   have BB := (But.refl (w.heap.size + 1) w7).set 1 (.bool true)
   have HA8 := hid (BB.row HA7.out (by omega))
   have HF8 := hid (BB.fr HF7.out (by omega))
   have HR8 := hid (HR7.out.but BB (by omega))
   clear BB
   have HSP := hid (z56 rb s _ (w7.setCell ⟨w.heap.size + 1, 1, none⟩ (.bool true)) hs HL7.out HR8.out)
   clear HA7 HB7 HF7 HR7
   go_wp2_with fail
   refine HSP.out.mono ?_
   rintro e w9 ⟨a, cap, rfl, hsl, hr, hf⟩
   have HA9 := hid (HA8.out.fr hf (by omega))
   have HB9 := hid (HB8.out.fr hf (by omega))
   have HF9 := hid (HF8.out.trans hf)
   have HR9 := hid hr
   have HSL := hid hsl
   clear hr hf hsl HSP HA8 HB8 HF8 HR8
   obtain ⟨sp, X, HSX⟩ : ∃ sp X, Hid (z2b s.data.toList (wordF s.data.toList [32, 33, 61, 32] U) = (sp, X)) := ⟨_, _, hid rfl⟩
   rw [HSX.out] at HR9 HSL ⊢
   simp only at HR9 HSL ⊢
   have HE := hid (zdv HS1.out HM.out HG.out HSX.out)
   have d0 := HB9.out.cell (i := 0) rfl
   have d1 := HB9.out.cell (i := 1) rfl
   have d2 := HB9.out.cell (i := 2) rfl
   have y2 := HB9.out.thaw 2
   have a0 := HA9.out.cell (i := 0) rfl
   have a1 := HA9.out.cell (i := 1) rfl
   have a2 := HA9.out.cell (i := 2) rfl
   have x0 := HA9.out.thaw 0
   have x1 := HA9.out.thaw 1
   have x2 := HA9.out.thaw 2
   obtain ⟨n, HL⟩ : ∃ n, Hid (n = sp.length) := ⟨_, hid rfl⟩
   rw [<- HL.out]
   have BB := (But.refl (w.heap.size + 1) w9).set 2 (.slice a n cap)
   have HQ9 := hid (HB9.out.set 2 (.slice a n cap))
   have HA10 := hid (BB.row HA9.out (by omega))
   have HF10 := hid (BB.fr HF9.out (by omega))
   have HR10 := hid (HR9.out.but BB (by omega))
   have HS10 := hid (HSL.out.kpt (KpT.of_but BB HB9.out (by decide)))
   clear BB HA9 HB9 HF9 HR9 HSL
   go_wp2
   have Q3 := HA10.out.put3 (.int .i64 (m : Int)) (.bool true) (.slice a n cap)
   have B3 := But.put3 w.heap.size (w9.setCell ⟨w.heap.size + 1, 2, none⟩ (.slice a n cap)) (.int .i64 (m : Int)) (.bool true) (.slice a n cap)
   have hsl := HS10.out.kpt (KpT.of_but B3 HA10.out (by decide))
   have hfr := B3.fr HF10.out (by omega)
   have hrd := HR10.out.but B3 (by omega)
   clear HS10 HF10 HR10 HA10
   generalize ((((w9.setCell ⟨w.heap.size + 1, 2, none⟩ (.slice a n cap)).setCell ⟨w.heap.size, 0, none⟩ (.int .i64 (m : Int))).setCell ⟨w.heap.size, 1, none⟩ (.bool true)).setCell ⟨w.heap.size, 2, none⟩ (.slice a n cap)) = w11 at *
   have e0 := Q3.cell (i := 0) rfl
   have e1 := Q3.cell (i := 1) rfl
   have e2 := Q3.cell (i := 2) rfl
   exact bodyPost_ret (v := .agg #[.int .i64 (m : Int), .bool true, .slice a n cap]) (by simp [results, Tryz.results248, go_sem, e0, e1, e2]) rfl (by rw [HE.out]; rw [HL.out]; exact ⟨a, cap, rfl, hsl, hrd, hfr⟩)
  | false =>
   have HG := hid (zht hb)
   clear hb
   have HWD : Hid (Calls Tryz.prog 244 #[.pointer (some ⟨rb, 0, none⟩), .string ⟨#[32, 61, 32]⟩] w6 fun e w' => e = .returned (.tuple #[]) /\ RdAt w' rb s (wordF s.data.toList [32, 61, 32] U) /\ Fr (· = rb) w6 w') := hid (z0i rb s ⟨#[32, 61, 32]⟩ U w6 hs (by decide) HL5.out HR6.out)
   have HGW := hid (z06 s.data.toList [32, 61, 32] U)
   go_wp2_with fail
   refine HWD.out.mono ?_
   rintro e w7 ⟨rfl, hr, hf⟩
   have HA7 := hid (HA6.out.fr hf (by omega))
   have HB7 := hid (HB6.out.fr hf (by omega))
   have HF7 := hid (HF6.out.trans hf)
   have HL7 := hid (zc8 rfl HGW.out HL5.out)
   have HR7 := hid hr
   clear hr hf HWD HGW HA6 HB6 HF6 HR6
   have HB8 := HB7
   have HA8 := HA7
   have HF8 := HF7
   have HR8 := HR7
   have HSP := hid (z56 rb s _ w7 hs HL7.out HR8.out)
   clear HA7 HB7 HF7 HR7
   go_wp2_with fail
   refine HSP.out.mono ?_
   rintro e w9 ⟨a, cap, rfl, hsl, hr, hf⟩
   have HA9 := hid (HA8.out.fr hf (by omega))
   have HB9 := hid (HB8.out.fr hf (by omega))
   have HF9 := hid (HF8.out.trans hf)
   have HR9 := hid hr
   have HSL := hid hsl
   clear hr hf hsl HSP HA8 HB8 HF8 HR8
   obtain ⟨sp, X, HSX⟩ : ∃ sp X, Hid (z2b s.data.toList (wordF s.data.toList [32, 61, 32] U) = (sp, X)) := ⟨_, _, hid rfl⟩
   rw [HSX.out] at HR9 HSL ⊢
   simp only at HR9 HSL ⊢
   have HE := hid (zdv HS1.out HM.out HG.out HSX.out)
   have d0 := HB9.out.cell (i := 0) rfl
   have d1 := HB9.out.cell (i := 1) rfl
   have d2 := HB9.out.cell (i := 2) rfl
   have y2 := HB9.out.thaw 2
   have a0 := HA9.out.cell (i := 0) rfl
   have a1 := HA9.out.cell (i := 1) rfl
   have a2 := HA9.out.cell (i := 2) rfl
   have x0 := HA9.out.thaw 0
   have x1 := HA9.out.thaw 1
   have x2 := HA9.out.thaw 2
   obtain ⟨n, HL⟩ : ∃ n, Hid (n = sp.length) := ⟨_, hid rfl⟩
   rw [<- HL.out]
   have BB := (But.refl (w.heap.size + 1) w9).set 2 (.slice a n cap)
   have HQ9 := hid (HB9.out.set 2 (.slice a n cap))
   have HA10 := hid (BB.row HA9.out (by omega))
   have HF10 := hid (BB.fr HF9.out (by omega))
   have HR10 := hid (HR9.out.but BB (by omega))
   have HS10 := hid (HSL.out.kpt (KpT.of_but BB HB9.out (by decide)))
   clear BB HA9 HB9 HF9 HR9 HSL
   go_wp2
   have Q3 := HA10.out.put3 (.int .i64 (m : Int)) (.bool false) (.slice a n cap)
   have B3 := But.put3 w.heap.size (w9.setCell ⟨w.heap.size + 1, 2, none⟩ (.slice a n cap)) (.int .i64 (m : Int)) (.bool false) (.slice a n cap)
   have hsl := HS10.out.kpt (KpT.of_but B3 HA10.out (by decide))
   have hfr := B3.fr HF10.out (by omega)
   have hrd := HR10.out.but B3 (by omega)
   clear HS10 HF10 HR10 HA10
   generalize ((((w9.setCell ⟨w.heap.size + 1, 2, none⟩ (.slice a n cap)).setCell ⟨w.heap.size, 0, none⟩ (.int .i64 (m : Int))).setCell ⟨w.heap.size, 1, none⟩ (.bool false)).setCell ⟨w.heap.size, 2, none⟩ (.slice a n cap)) = w11 at *
   have e0 := Q3.cell (i := 0) rfl
   have e1 := Q3.cell (i := 1) rfl
   have e2 := Q3.cell (i := 2) rfl
   exact bodyPost_ret (v := .agg #[.int .i64 (m : Int), .bool false, .slice a n cap]) (by simp [results, Tryz.results248, go_sem, e0, e1, e2]) rfl (by rw [HE.out]; rw [HL.out]; exact ⟨a, cap, rfl, hsl, hrd, hfr⟩)
 | false =>
  have HM := hid (mod_no hb)
  clear hb
  have HA5 := HA2
  have HB5 := HB2
  have HF5 := HF2
  have HR5 := HR2
  have HL5 := HL1
  have HN5 : Hid (Calls Tryz.prog 249 #[.pointer (some ⟨rb, 0, none⟩), .string ⟨#[32, 33]⟩] w2 fun e w' => e = .returned (.bool (nextF s.data.toList [32, 33] S1)) /\ Same w2 w') := hid (z13 rb s ⟨#[32, 33]⟩ _ _ hs HL5.out HR5.out)
  go_wp2_with fail
  refine HN5.out.mono ?_
  rintro e w6 ⟨rfl, hw⟩
  have HA6 := hid (hw.row HA5.out)
  have HB6 := hid (hw.row HB5.out)
  have HF6 := hid (HF5.out.trans (Fr.of_same hw))
  have HR6 := hid (HR5.out.same hw)
  clear hw HN5 HA5 HB5 HF5 HR5
  cases hb : nextF s.data.toList [32, 33] S1 with
  | true =>
   have HG := hid (zhs hb)
   clear hb
   have HWD : Hid (Calls Tryz.prog 244 #[.pointer (some ⟨rb, 0, none⟩), .string ⟨#[32, 33, 61, 32]⟩] w6 fun e w' => e = .returned (.tuple #[]) /\ RdAt w' rb s (wordF s.data.toList [32, 33, 61, 32] S1) /\ Fr (· = rb) w6 w') := hid (z0i rb s ⟨#[32, 33, 61, 32]⟩ S1 w6 hs (by decide) HL5.out HR6.out)
   have HGW := hid (z06 s.data.toList [32, 33, 61, 32] S1)
   go_wp2_with fail
   refine HWD.out.mono ?_
   rintro e w7 ⟨rfl, hr, hf⟩
   have HA7 := hid (HA6.out.fr hf (by omega))
   have HB7 := hid (HB6.out.fr hf (by omega))
   have HF7 := hid (HF6.out.trans hf)
   have HL7 := hid (zc8 rfl HGW.out HL5.out)
   have HR7 := hid hr
   clear hr hf HWD HGW HA6 HB6 HF6 HR6
   have d1 := HB7.out.cell (i := 1) rfl
   have z1 := HB7.out.thaw 1
   have HB8 := hid (HB7.out.set 1 (.bool true))
   have BB := (But.refl (w.heap.size + 1) w7).set 1 (.bool true)
   have HA8 := hid (BB.row HA7.out (by omega))
   have HF8 := hid (BB.fr HF7.out (by omega))
   have HR8 := hid (HR7.out.but BB (by omega))
   clear BB
   have HSP := hid (z56 rb s _ (w7.setCell ⟨w.heap.size + 1, 1, none⟩ (.bool true)) hs HL7.out HR8.out)
   clear HA7 HB7 HF7 HR7
   go_wp2_with fail
   refine HSP.out.mono ?_
   rintro e w9 ⟨a, cap, rfl, hsl, hr, hf⟩
   have HA9 := hid (HA8.out.fr hf (by omega))
   have HB9 := hid (HB8.out.fr hf (by omega))
   have HF9 := hid (HF8.out.trans hf)
   have HR9 := hid hr
   have HSL := hid hsl
   clear hr hf hsl HSP HA8 HB8 HF8 HR8
   obtain ⟨sp, X, HSX⟩ : ∃ sp X, Hid (z2b s.data.toList (wordF s.data.toList [32, 33, 61, 32] S1) = (sp, X)) := ⟨_, _, hid rfl⟩
   rw [HSX.out] at HR9 HSL ⊢
   simp only at HR9 HSL ⊢
   have HE := hid (zdv HS1.out HM.out HG.out HSX.out)
   have d0 := HB9.out.cell (i := 0) rfl
   have d1 := HB9.out.cell (i := 1) rfl
   have d2 := HB9.out.cell (i := 2) rfl
   have y2 := HB9.out.thaw 2
   have a0 := HA9.out.cell (i := 0) rfl
   have a1 := HA9.out.cell (i := 1) rfl
   have a2 := HA9.out.cell (i := 2) rfl
   have x0 := HA9.out.thaw 0
   have x1 := HA9.out.thaw 1
   have x2 := HA9.out.thaw 2
   obtain ⟨n, HL⟩ : ∃ n, Hid (n = sp.length) := ⟨_, hid rfl⟩
   rw [<- HL.out]
   have BB := (But.refl (w.heap.size + 1) w9).set 2 (.slice a n cap)
   have HQ9 := hid (HB9.out.set 2 (.slice a n cap))
   have HA10 := hid (BB.row HA9.out (by omega))
   have HF10 := hid (BB.fr HF9.out (by omega))
   have HR10 := hid (HR9.out.but BB (by omega))
   have HS10 := hid (HSL.out.kpt (KpT.of_but BB HB9.out (by decide)))
   clear BB HA9 HB9 HF9 HR9 HSL
   go_wp2
   have Q3 := HA10.out.put3 (.int .i64 0) (.bool true) (.slice a n cap)
   have B3 := But.put3 w.heap.size (w9.setCell ⟨w.heap.size + 1, 2, none⟩ (.slice a n cap)) (.int .i64 0) (.bool true) (.slice a n cap)
   have hsl := HS10.out.kpt (KpT.of_but B3 HA10.out (by decide))
   have hfr := B3.fr HF10.out (by omega)
   have hrd := HR10.out.but B3 (by omega)
   clear HS10 HF10 HR10 HA10
   generalize ((((w9.setCell ⟨w.heap.size + 1, 2, none⟩ (.slice a n cap)).setCell ⟨w.heap.size, 0, none⟩ (.int .i64 0)).setCell ⟨w.heap.size, 1, none⟩ (.bool true)).setCell ⟨w.heap.size, 2, none⟩ (.slice a n cap)) = w11 at *
   have e0 := Q3.cell (i := 0) rfl
   have e1 := Q3.cell (i := 1) rfl
   have e2 := Q3.cell (i := 2) rfl
   exact bodyPost_ret (v := .agg #[.int .i64 0, .bool true, .slice a n cap]) (by simp [results, Tryz.results248, go_sem, e0, e1, e2]) rfl (by rw [HE.out]; rw [HL.out]; exact ⟨a, cap, rfl, hsl, hrd, hfr⟩)
  | false =>
   have HG := hid (zht hb)
   clear hb
   have HWD : Hid (Calls Tryz.prog 244 #[.pointer (some ⟨rb, 0, none⟩), .string ⟨#[32, 61, 32]⟩] w6 fun e w' => e = .returned (.tuple #[]) /\ RdAt w' rb s (wordF s.data.toList [32, 61, 32] S1) /\ Fr (· = rb) w6 w') := hid (z0i rb s ⟨#[32, 61, 32]⟩ S1 w6 hs (by decide) HL5.out HR6.out)
   have HGW := hid (z06 s.data.toList [32, 61, 32] S1)
   go_wp2_with fail
   refine HWD.out.mono ?_
   rintro e w7 ⟨rfl, hr, hf⟩
   have HA7 := hid (HA6.out.fr hf (by omega))
   have HB7 := hid (HB6.out.fr hf (by omega))
   have HF7 := hid (HF6.out.trans hf)
   have HL7 := hid (zc8 rfl HGW.out HL5.out)
   have HR7 := hid hr
   clear hr hf HWD HGW HA6 HB6 HF6 HR6
   have HB8 := HB7
   have HA8 := HA7
   have HF8 := HF7
   have HR8 := HR7
   have HSP := hid (z56 rb s _ w7 hs HL7.out HR8.out)
   clear HA7 HB7 HF7 HR7
   go_wp2_with fail
   refine HSP.out.mono ?_
   rintro e w9 ⟨a, cap, rfl, hsl, hr, hf⟩
   have HA9 := hid (HA8.out.fr hf (by omega))
   have HB9 := hid (HB8.out.fr hf (by omega))
   have HF9 := hid (HF8.out.trans hf)
   have HR9 := hid hr
   have HSL := hid hsl
   clear hr hf hsl HSP HA8 HB8 HF8 HR8
   obtain ⟨sp, X, HSX⟩ : ∃ sp X, Hid (z2b s.data.toList (wordF s.data.toList [32, 61, 32] S1) = (sp, X)) := ⟨_, _, hid rfl⟩
   rw [HSX.out] at HR9 HSL ⊢
   simp only at HR9 HSL ⊢
   have HE := hid (zdv HS1.out HM.out HG.out HSX.out)
   have d0 := HB9.out.cell (i := 0) rfl
   have d1 := HB9.out.cell (i := 1) rfl
   have d2 := HB9.out.cell (i := 2) rfl
   have y2 := HB9.out.thaw 2
   have a0 := HA9.out.cell (i := 0) rfl
   have a1 := HA9.out.cell (i := 1) rfl
   have a2 := HA9.out.cell (i := 2) rfl
   have x0 := HA9.out.thaw 0
   have x1 := HA9.out.thaw 1
   have x2 := HA9.out.thaw 2
   obtain ⟨n, HL⟩ : ∃ n, Hid (n = sp.length) := ⟨_, hid rfl⟩
   rw [<- HL.out]
   have BB := (But.refl (w.heap.size + 1) w9).set 2 (.slice a n cap)
   have HQ9 := hid (HB9.out.set 2 (.slice a n cap))
   have HA10 := hid (BB.row HA9.out (by omega))
   have HF10 := hid (BB.fr HF9.out (by omega))
   have HR10 := hid (HR9.out.but BB (by omega))
   have HS10 := hid (HSL.out.kpt (KpT.of_but BB HB9.out (by decide)))
   clear BB HA9 HB9 HF9 HR9 HSL
   go_wp2
   have Q3 := HA10.out.put3 (.int .i64 0) (.bool false) (.slice a n cap)
   have B3 := But.put3 w.heap.size (w9.setCell ⟨w.heap.size + 1, 2, none⟩ (.slice a n cap)) (.int .i64 0) (.bool false) (.slice a n cap)
   have hsl := HS10.out.kpt (KpT.of_but B3 HA10.out (by decide))
   have hfr := B3.fr HF10.out (by omega)
   have hrd := HR10.out.but B3 (by omega)
   clear HS10 HF10 HR10 HA10
   generalize ((((w9.setCell ⟨w.heap.size + 1, 2, none⟩ (.slice a n cap)).setCell ⟨w.heap.size, 0, none⟩ (.int .i64 0)).setCell ⟨w.heap.size, 1, none⟩ (.bool false)).setCell ⟨w.heap.size, 2, none⟩ (.slice a n cap)) = w11 at *
   have e0 := Q3.cell (i := 0) rfl
   have e1 := Q3.cell (i := 1) rfl
   have e2 := Q3.cell (i := 2) rfl
   exact bodyPost_ret (v := .agg #[.int .i64 0, .bool false, .slice a n cap]) (by simp [results, Tryz.results248, go_sem, e0, e1, e2]) rfl (by rw [HE.out]; rw [HL.out]; exact ⟨a, cap, rfl, hsl, hrd, hfr⟩)
end Go.Proofs.YtdnedbcmgkilaaaGreatDoor.Pu

end

section

namespace Go.Proofs.YtdnedbcmgkilaaaGreatDoor.Pu
set_option maxHeartbeats 3200000
set_option maxRecDepth 100000
open Go.Lib (hid)
open Go.RowKit
theorem rowL_yes {l : List UInt8} {f : Nat} {xs : List (Rl)} {S : St} (h : nextF l [32, 97] S = true) (hf : l.length <= f + S.1) : ∃ f', f = f' + 1 /\ rowL l f xs S = rowL l f' (xs ++ [(relF l (wordF l [32, 97, 110, 100, 32] S)).1]) (relF l (wordF l [32, 97, 110, 100, 32] S)).2 := by
 have : S.1 < l.length := z0l (z77 h).2
 obtain ⟨f', rfl⟩ : ∃ f', f = f' + 1 := ⟨f - 1, by omega⟩
 exact ⟨f', rfl, by rw [rowL, if_pos h]⟩
theorem zgu {l : List UInt8} {f : Nat} {xs : List (Rl)} {S : St} (h : nextF l [32, 97] S = false) : rowL l f xs S = (xs, S) := by
 cases f with
 | zero => rw [rowL]
 | succ f => rw [rowL, if_neg (by rw [h]; simp)]
structure RwU (s : BA) (rb : Nat) (w wr : World) (v : Value) (xs : List (Rl)) (vs : List Value) (T : St) : Prop where
 own : wr.ownsRow w.heap.size 245 3 v xs.length vs
 cat : Cat 3 (CR wr (Ty [266] wr)) xs vs
 rd : RdAt wr rb s T
 fr : Fr (· = rb) w wr
 le : T.1 <= s.size
 few : xs.length <= T.1 + 1
theorem zgt (rb : Nat) (s : BA) (S : St) (w : World) (hs : s.size <= 400) (hS : S.1 <= s.size) (hR : RdAt w rb s S) :
  Calls Tryz.prog 243 #[.pointer (some ⟨rb, 0, none⟩)] w fun e w' => ∃ a cap, e = .returned (.slice a (rowF s.data.toList S).1.length cap) /\ SlR w' (Ty [266, 245] w') (.slice a (rowF s.data.toList S).1.length cap) (rowF s.data.toList S).1 /\ RdAt w' rb s (rowF s.data.toList S).2 /\ Fr (· = rb) w w' := by
 obtain ⟨i0, hi, hz0, hz1, hz2⟩ := info_parts info49
 have HR := hid hR
 have hlr := hR.lt
 have HG0 := hid (zei s.data.toList S)
 have HS0 : Hid (rowF s.data.toList S = rowL s.data.toList s.data.toList.length [(relF s.data.toList S).1] (relF s.data.toList S).2) := hid rfl
 have HN1 := hid (z63 rb s S w hs hS hR)
 clear hR
 go_enter Tryz.func243, Tryz.ntmps243
 go_wp2_with fail
 refine HN1.out.mono ?_
 rintro e w1 ⟨a1, p1, rfl, hsl1, hr1, hf1⟩
 have HR1 := hid hr1
 have HF1 := hid hf1
 have HSL1 := hid hsl1
 clear hr1 hf1 HN1 hsl1
 generalize relF s.data.toList S = r at *
 obtain ⟨⟨m1, n1, sp1⟩, T0⟩ := r
 simp only at HR1 HS0 HG0 HSL1 ⊢
 obtain ⟨n1l, HNL1⟩ : ∃ n, Hid (n = sp1.length) := ⟨_, hid rfl⟩
 rw [<- HNL1.out]
 have HLT : Hid (T0.1 <= s.size) := hid (by have := HG0.out.2 (by simpa using hS); simpa using this)
 have HU0 : Hid (RwU s rb w (w1.alloc (.cells #[.int .i64 m1, .bool n1, .slice a1 n1l p1] 245)) (.slice (some ⟨w1.heap.size, 0, none⟩) 1 1) [⟨m1, n1, sp1⟩] [.int .i64 m1, .bool n1, .slice a1 n1l p1] T0) := hid
  ⟨z2h w1 #[.int .i64 m1, .bool n1, .slice a1 n1l p1] 245 w.heap.size 1 3 rfl HF1.out.size (by decide), Cat.one (k := 3) rfl ⟨.slice a1 n1l p1, rfl, by rw [HNL1.out]; exact HSL1.out.kpt (KpT.of_below (z02 _ _))⟩, HR1.out.alloc _, HF1.out.alloc _, HLT.out, by simp⟩
 go_wp2
 go_loopw [3] (fun v wr => ∃ (xs : List (Rl)) (vs : List Value) (g cap : Nat) (T : St) (f : Nat), v = .slice (some ⟨g, 0, none⟩) xs.length cap /\ Hid (RwU s rb w wr (.slice (some ⟨g, 0, none⟩) xs.length cap) xs vs T) /\ Hid (rowF s.data.toList S = rowL s.data.toList f xs T) /\ Hid (s.data.toList.length <= f + T.1)) (fun _ wr => plc s.size rb wr)
 case atStart => exact ⟨_, _, _, _, _, _, rfl, HU0, HS0, hid (by omega)⟩
 case round =>
  obtain ⟨xs, vs, g, cap, T, f, rfl, HU, HS, Hf⟩ := hrel
  have HM := hid (z2c (m := s.size) HU.out.rd)
  have HN2 : Hid (Calls Tryz.prog 249 #[.pointer (some ⟨rb, 0, none⟩), .string ⟨#[32, 97]⟩] wr fun e w' => e = .returned (.bool (nextF s.data.toList [32, 97] T)) /\ Same wr w') := hid (z13 rb s ⟨#[32, 97]⟩ _ wr hs HU.out.le HU.out.rd)
  clear HU0 HS0 HLT HR1 HF1 HG0 HR HSL1 HNL1
  obtain ⟨n, HL⟩ : ∃ n, Hid (n = xs.length) := ⟨_, hid rfl⟩
  rw [<- HL.out]
  go_wp2_with fail
  refine HN2.out.mono ?_
  rintro e w2 ⟨rfl, hw2⟩
  have HU2 : Hid (RwU s rb w w2 (.slice (some ⟨g, 0, none⟩) xs.length cap) xs vs T) := hid ⟨z0a HU.out.own (fun _ _ => by rw [hw2.heap]), HU.out.cat.mono (fun _ _ h => h.kpt (fun _ _ => by rw [hw2.heap])), HU.out.rd.same hw2, HU.out.fr.trans (Fr.of_same hw2), HU.out.le, HU.out.few⟩
  clear hw2 HN2 HU
  cases hb : nextF s.data.toList [32, 97] T with
  | false =>
   have HE := hid (HS.out.trans (zgu hb))
   clear hb
   go_wp2
   go_ret
   have hcat := HU2.out.cat.mono (C' := CR w2 (Ty [266, 245] w2)) (fun _ _ h => CR.keep (fun _ _ => rfl) (fun _ h => h.mono (by simp)) h)
   have := Sl.of_owns HU2.out.own hcat (S := Ty [266, 245] w2) (fun b cs z h => ⟨cs, 245, z, h, by simp⟩)
   rw [HE.out]
   refine ⟨_, cap, by rw [HL.out]; rfl, this, HU2.out.rd, HU2.out.fr⟩
  | true =>
   obtain ⟨f', hf', hE⟩ := rowL_yes (xs := xs) hb Hf.out
   have HW1 := hid (zc5 (u := [97, 110, 100, 32]) hb)
   have HE := hid (HS.out.trans hE)
   have HG1 := hid (z06 s.data.toList [32, 97, 110, 100, 32] T)
   have HTW : Hid ((wordF s.data.toList [32, 97, 110, 100, 32] T).1 <= s.size) := hid (by have := HG1.out.2 (by simpa using HU2.out.le); simpa using this)
   have HG2 := hid (zei s.data.toList (wordF s.data.toList [32, 97, 110, 100, 32] T))
   have HTX : Hid ((relF s.data.toList (wordF s.data.toList [32, 97, 110, 100, 32] T)).2.1 <= s.size) := hid (by have := HG2.out.2 (by simpa using HTW.out); simpa using this)
   have HWD : Hid (Calls Tryz.prog 244 #[.pointer (some ⟨rb, 0, none⟩), .string ⟨#[32, 97, 110, 100, 32]⟩] w2 fun e w' => e = .returned (.tuple #[]) /\ RdAt w' rb s (wordF s.data.toList [32, 97, 110, 100, 32] T) /\ Fr (· = rb) w2 w') := hid (z0i rb s ⟨#[32, 97, 110, 100, 32]⟩ T w2 hs (by decide) HU2.out.le HU2.out.rd)
   clear hb hE HS
   go_wp2_with fail
   refine HWD.out.mono ?_
   rintro e w3 ⟨rfl, hr3, hf3⟩
   have HF3 := hid hf3
   have HN3 := hid (z63 rb s _ w3 hs HTW.out hr3)
   clear hr3 hf3 HWD
   go_wp2_with fail
   refine HN3.out.mono ?_
   rintro e w4 ⟨a2, p2, rfl, hsl4, hr4, hf4⟩
   have HF4 := hid (HF3.out.trans hf4)
   have HO4 : Hid (w4.ownsRow w.heap.size 245 3 (.slice (some ⟨g, 0, none⟩) n cap) n vs) := hid (by rw [HL.out]; exact z0a HU2.out.own (fun k hk => HF4.out.block k (HU2.out.own.lt k hk).2 (by have := (HU2.out.own.lt k hk).1; omega)))
   have HC4 := hid (HU2.out.cat.mono (fun _ _ h => h.kpt (KpT.of_fr HF4.out HU2.out.rd (by decide))))
   have HR4 := hid hr4
   have HSL4 := hid hsl4
   have HZ4 : Hid (w.heap.size <= w4.heap.size) := hid (HU2.out.fr.trans HF4.out).size
   have HNF : Hid (n <= 1000) := hid (by have := HU2.out.few; have := HU2.out.le; have := HL.out; omega)
   clear hr4 hf4 HN3 HF3 hsl4
   generalize relF s.data.toList (wordF s.data.toList [32, 97, 110, 100, 32] T) = q at *
   obtain ⟨⟨m2, n2, sp2⟩, T2⟩ := q
   simp only at HR4 HE HTX HG2 HSL4 ⊢
   obtain ⟨n2l, HNL2⟩ : ∃ n, Hid (n = sp2.length) := ⟨_, hid rfl⟩
   rw [<- HNL2.out]
   have hz4 := HZ4.out
   have hnf := HNF.out
   go_wp2_with (at_builtin; refine wpList_append_lies _ rfl _ _ 231 rfl w.heap.size 245 i0 _ 3 40 Tryz.underlying231 hi hz0 hz1 hz2 rfl (by decide) _ _ _ rfl (HO4.out.alloc _) _ 1 1 [.int .i64 m2, .bool n2, .slice a2 n2l p2] rfl rfl (z0s _ #[.int .i64 m2, .bool n2, .slice a2 n2l p2] _ rfl) (by simp [Value.oneCell']) (by decide) (by unfold maxLen; omega) (by omega) (by simp; omega) (w4.heap.size + 1) (by simp) ?_; intro g5 c5 w5 hown5 hgrow5 _ _; have HO5 := hid hown5; have HG5 := hid hgrow5; clear hown5 hgrow5)
   have HK5 : Hid (KpT [266] w4 w5) := hid ((KpT.of_below (z02 w4 _)).trans (KpT.of_grown HG5.out (HO4.out.alloc _) (by decide)))
   have HU5 : Hid (RwU s rb w w5 (.slice (some ⟨g5, 0, none⟩) (xs ++ [(⟨m2, n2, sp2⟩ : Rl)]).length c5) (xs ++ [(⟨m2, n2, sp2⟩ : Rl)]) (vs ++ [.int .i64 m2, .bool n2, .slice a2 n2l p2]) T2) := hid
    ⟨by rw [List.length_append, <- HL.out]; exact HO5.out, Cat.snoc (k := 3) (C := CR w5 (Ty [266] w5)) (cs := [.int .i64 m2, .bool n2, .slice a2 n2l p2]) rfl ⟨.slice a2 n2l p2, rfl, by rw [HNL2.out]; exact HSL4.out.kpt HK5.out⟩ (HC4.out.mono (fun _ _ h => h.kpt HK5.out)), z9i HG5.out HR4.out HO4.out hlr, z4e HG5.out (HU2.out.fr.trans HF4.out) HO4.out (Nat.le_refl _), HTX.out, by have h1 := HU2.out.few; have h2 := HG2.out.1; have h9 := HW1.out; rw [List.length_append]; simp only [List.length_cons, List.length_nil]; omega⟩
   go_roundw
   case rel => exact ⟨_, _, g5, c5, T2, f', by rw [List.length_append, <- HL.out]; rfl, HU5, HE, hid (by have h1 := Hf.out; have h2 := HG2.out.1; have h9 := HW1.out; omega)⟩
   case measure =>
    have h1 := z2c (m := s.size) HU5.out.rd
    rw [HM.out, h1]
    have h3 := HG2.out.1; have h4 := HTX.out; have h9 := HW1.out; omega
end Go.Proofs.YtdnedbcmgkilaaaGreatDoor.Pu

end

section

namespace Go.Proofs.YtdnedbcmgkilaaaGreatDoor.Pu
set_option maxHeartbeats 3200000
set_option maxRecDepth 100000
open Go.Lib (hid)
open Go.RowKit
theorem za9 (l : List UInt8) (c : UInt8) (r : List UInt8) (a : Nat) : wordF l (c :: r) (a, true) = (a, true) := by rw [wordF, z7y]; rfl
theorem zgn (l : List UInt8) (a : Nat) : spanF l (a, true) = (⟨0, 0⟩, (a, true)) := by
 unfold spanF; rw [zb4]; simp [z7y]
theorem zcc (l : List UInt8) (a : Nat) (f : Nat) (xs : List Sp) : z3f l f xs (a, true) = (xs, (a, true)) := zai rfl
theorem zfk (l : List UInt8) (a : Nat) : (z2b l (a, true)).2 = (a, true) := by unfold z2b; rw [zgn, zcc]
theorem mod_dead (l : List UInt8) (a : Nat) : modF l (a, true) = (0, (a, true)) := mod_no rfl
theorem neg_dead (l : List UInt8) (a : Nat) : negF l (a, true) = (false, (a, true)) := by rw [zht rfl, za9]
theorem rel_dead (l : List UInt8) (a : Nat) : (relF l (a, true)).2 = (a, true) := by unfold relF; simp only [za9, mod_dead, neg_dead, zfk]
theorem zgv (l : List UInt8) (a : Nat) (f : Nat) (xs : List Rl) : rowL l f xs (a, true) = (xs, (a, true)) := zgu rfl
theorem row_dead (l : List UInt8) (a : Nat) : (rowF l (a, true)).2 = (a, true) := by unfold rowF; rw [rel_dead, zgv]
theorem rule_adv (l : List UInt8) (T : St) (_h : T.2 = false) : (rowF l (wordF l [32, 111, 114, 32] T)).2.2 = true ∨ T.1 + 1 <= (rowF l (wordF l [32, 111, 114, 32] T)).2.1 := by
 cases hb : nextF l [32] T with
 | true =>
  have h1 := zc5 (u := [111, 114, 32]) hb
  have h2 := (zbh l (wordF l [32, 111, 114, 32] T)).1
  exact .inr (by omega)
 | false =>
  rw [z6s hb, row_dead]; exact .inl rfl
theorem few_rule {α : Type} {xs : List α} {x : α} {T W T2 : St} (h : xs.length <= T.1 + 1 + T.2.toNat) (h0 : T.2 = false) (h1 : T.1 <= W.1) (h2 : W.1 <= T2.1) (h3 : T2.2 = true ∨ T.1 + 1 <= T2.1) : (xs ++ [x]).length <= T2.1 + 1 + T2.2.toNat := by
 rw [h0] at h
 rw [List.length_append]
 simp only [List.length_cons, List.length_nil, Bool.toNat_false] at *
 rcases h3 with h3 | h3
 ·rw [h3]; simp only [Bool.toNat_true]; omega
 ·omega
theorem ziq {f f' n : Nat} {T T2 : St} (h : T.2 = false -> n <= f + T.1) (h0 : T.2 = false) (hf : f = f' + 1) (h3 : T2.2 = true ∨ T.1 + 1 <= T2.1) : T2.2 = false -> n <= f' + T2.1 := fun h4 => by
 have := h h0
 rcases h3 with h3 | h3
 ·rw [h4] at h3; cases h3
 ·omega
def pl2 (m rb : Nat) (w : World) : Nat := 2 * plc m rb w + (match w.cell? ⟨rb, 2, none⟩ with | some (.bool true) => 0 | _ => 1)
theorem z73 {m rb : Nat} {w : World} {s : BA} {S : St} (h : RdAt w rb s S) : pl2 m rb w = 2 * (m - S.1) + (if S.2 then 0 else 1) := by
 unfold pl2; rw [z2c h, h.c2]; cases S.2 <;> rfl
theorem zgs {l : List UInt8} {f : Nat} {xs : List (List Rl)} {S : St} (h : S.2 = false /\ S.1 < l.length) (hf : l.length <= f + S.1) : ∃ f', f = f' + 1 /\ ruleL l f xs S = ruleL l f' (xs ++ [(rowF l (wordF l [32, 111, 114, 32] S)).1]) (rowF l (wordF l [32, 111, 114, 32] S)).2 := by
 have : S.1 < l.length := h.2
 obtain ⟨f', rfl⟩ : ∃ f', f = f' + 1 := ⟨f - 1, by omega⟩
 exact ⟨f', rfl, by rw [ruleL, if_pos h]⟩
theorem ruleL_no {l : List UInt8} {f : Nat} {xs : List (List Rl)} {S : St} (h : ¬ (S.2 = false /\ S.1 < l.length)) : ruleL l f xs S = (xs, S) := by
 cases f with
 | zero => rw [ruleL]
 | succ f => rw [ruleL, if_neg h]
structure RuU (s : BA) (rb : Nat) (w wr : World) (v : Value) (xs : List (List Rl)) (vs : List Value) (T : St) : Prop where
 own : wr.ownsRow w.heap.size 231 1 v xs.length vs
 cat : Cat 1 (CW wr (Ty [266, 245] wr)) xs vs
 rd : RdAt wr rb s T
 fr : Fr (· = rb) w wr
 le : T.1 <= s.size
 few : xs.length <= T.1 + 1 + T.2.toNat
theorem rule_any (rb : Nat) (s : BA) (S : St) (w : World) (hs : s.size <= 400) (hS : S.1 <= s.size) (hR : RdAt w rb s S) :
  Calls Tryz.prog 238 #[.pointer (some ⟨rb, 0, none⟩)] w fun e w' => ∃ a cap, e = .returned (.slice a (ruleF s.data.toList S).1.length cap) /\ SlW w' (Ty [266, 245, 231] w') (.slice a (ruleF s.data.toList S).1.length cap) (ruleF s.data.toList S).1 /\ RdAt w' rb s (ruleF s.data.toList S).2 /\ Fr (· = rb) w w' := by
 obtain ⟨i0, hi, hz0, hz1, hz2⟩ := info_parts info51
 have HR := hid hR
 have hlr := hR.lt
 have HG0 := hid (zbh s.data.toList S)
 have HS0 : Hid (ruleF s.data.toList S = ruleL s.data.toList s.data.toList.length [(rowF s.data.toList S).1] (rowF s.data.toList S).2) := hid rfl
 have HN1 := hid (zgt rb s S w hs hS hR)
 clear hR
 go_enter Tryz.func238, Tryz.ntmps238
 go_wp2_with fail
 refine HN1.out.mono ?_
 rintro e w1 ⟨a1, p1, rfl, hsl1, hr1, hf1⟩
 have HR1 := hid hr1
 have HF1 := hid hf1
 have HSL1 := hid hsl1
 clear hr1 hf1 HN1 hsl1
 generalize rowF s.data.toList S = r at *
 obtain ⟨sp1, T0⟩ := r
 simp only at HR1 HS0 HG0 HSL1 ⊢
 obtain ⟨n1l, HNL1⟩ : ∃ n, Hid (n = sp1.length) := ⟨_, hid rfl⟩
 rw [<- HNL1.out]
 have HLT : Hid (T0.1 <= s.size) := hid (by have := HG0.out.2 (by simpa using hS); simpa using this)
 have HU0 : Hid (RuU s rb w (w1.alloc (.cells #[.slice a1 n1l p1] 231)) (.slice (some ⟨w1.heap.size, 0, none⟩) 1 1) [sp1] [.slice a1 n1l p1] T0) := hid
  ⟨z2h w1 #[.slice a1 n1l p1] 231 w.heap.size 1 1 rfl HF1.out.size (by decide), Cat.one (k := 1) rfl ⟨.slice a1 n1l p1, rfl, by rw [HNL1.out]; exact HSL1.out.kpt (KpT.of_below (z02 _ _))⟩, HR1.out.alloc _, HF1.out.alloc _, HLT.out, by simp only [List.length_cons, List.length_nil]; omega⟩
 go_wp2
 go_loopw [3] (fun v wr => ∃ (xs : List (List Rl)) (vs : List Value) (g cap : Nat) (T : St) (f : Nat), v = .slice (some ⟨g, 0, none⟩) xs.length cap /\ Hid (RuU s rb w wr (.slice (some ⟨g, 0, none⟩) xs.length cap) xs vs T) /\ Hid (ruleF s.data.toList S = ruleL s.data.toList f xs T) /\ Hid (T.2 = false -> s.data.toList.length <= f + T.1)) (fun _ wr => pl2 s.size rb wr)
 case atStart => exact ⟨_, _, _, _, _, _, rfl, HU0, HS0, hid (fun _ => by omega)⟩
 case round =>
  obtain ⟨xs, vs, g, cap, T, f, rfl, HU, HS, Hf⟩ := hrel
  have HM := hid (z73 (m := s.size) HU.out.rd)
  clear HU0 HS0 HLT HR1 HF1 HG0 HR HSL1 HNL1
  obtain ⟨n, HL⟩ : ∃ n, Hid (n = xs.length) := ⟨_, hid rfl⟩
  rw [<- HL.out]
  have c0 := HU.out.rd.c0
  have c1 := HU.out.rd.c1
  have c2 := HU.out.rd.c2
  by_cases hb : T.2 = false /\ T.1 < s.data.toList.length
  rotate_left
  ·have HE := hid (HS.out.trans (ruleL_no hb))
   cases hst : T.2 with
   | true =>
    rw [hst] at c2
    clear hb hst
    go_wp2
    go_quiet (fail)
    generalize hw0 : wr.drewN nq = w2
    have hw2 : Same wr w2 := by rw [<- hw0]; exact (Same.refl _).drewN _
    have HU2 : Hid (RuU s rb w w2 (.slice (some ⟨g, 0, none⟩) xs.length cap) xs vs T) := hid ⟨z0a HU.out.own (fun _ _ => by rw [hw2.heap]), HU.out.cat.mono (fun _ _ h => h.kpt (fun _ _ => by rw [hw2.heap])), HU.out.rd.same hw2, HU.out.fr.trans (Fr.of_same hw2), HU.out.le, HU.out.few⟩
    clear hw2 hw0
    go_wp2
    go_ret
    have hcat := HU2.out.cat.mono (C' := CW w2 (Ty [266, 245, 231] w2)) (fun _ _ h => CW.keep (fun _ _ => rfl) (fun _ h => h.mono (by simp)) h)
    have := Sl.of_owns HU2.out.own hcat (S := Ty [266, 245, 231] w2) (fun b cs z h => ⟨cs, 231, z, h, by simp⟩)
    rw [HE.out]
    refine ⟨_, cap, by rw [HL.out]; rfl, this, HU2.out.rd, HU2.out.fr⟩
   | false =>
    rw [hst] at c2
    have hge : ¬ T.1 < s.size := fun h => hb ⟨hst, by simpa using h⟩
    clear hb hst
    go_wp2
    go_quiet (fail)
    generalize hw0 : wr.drewN nq = w2
    have hw2 : Same wr w2 := by rw [<- hw0]; exact (Same.refl _).drewN _
    have HU2 : Hid (RuU s rb w w2 (.slice (some ⟨g, 0, none⟩) xs.length cap) xs vs T) := hid ⟨z0a HU.out.own (fun _ _ => by rw [hw2.heap]), HU.out.cat.mono (fun _ _ h => h.kpt (fun _ _ => by rw [hw2.heap])), HU.out.rd.same hw2, HU.out.fr.trans (Fr.of_same hw2), HU.out.le, HU.out.few⟩
    clear hw2 hw0
    go_wp2
    go_ret
    have hcat := HU2.out.cat.mono (C' := CW w2 (Ty [266, 245, 231] w2)) (fun _ _ h => CW.keep (fun _ _ => rfl) (fun _ h => h.mono (by simp)) h)
    have := Sl.of_owns HU2.out.own hcat (S := Ty [266, 245, 231] w2) (fun b cs z h => ⟨cs, 231, z, h, by simp⟩)
    rw [HE.out]
    refine ⟨_, cap, by rw [HL.out]; rfl, this, HU2.out.rd, HU2.out.fr⟩
  ·obtain ⟨f', hf', hE⟩ := zgs (xs := xs) hb (Hf.out hb.1)
   have hf2 := hid hf'
   clear hf'
   obtain ⟨hst, hlt⟩ := hb
   have hlt2 : T.1 < s.size := by simpa using hlt
   rw [hst] at c2
   have HST := hid hst
   clear hst hlt
   go_wp2
   go_quiet (fail)
   generalize hw0 : wr.drewN nq = w2
   have hw2 : Same wr w2 := by rw [<- hw0]; exact (Same.refl _).drewN _
   have HU2 : Hid (RuU s rb w w2 (.slice (some ⟨g, 0, none⟩) xs.length cap) xs vs T) := hid ⟨z0a HU.out.own (fun _ _ => by rw [hw2.heap]), HU.out.cat.mono (fun _ _ h => h.kpt (fun _ _ => by rw [hw2.heap])), HU.out.rd.same hw2, HU.out.fr.trans (Fr.of_same hw2), HU.out.le, HU.out.few⟩
   clear hw2 hw0 HU c0 c1 c2
   have HE := hid (HS.out.trans hE)
   have HG1 := hid (z06 s.data.toList [32, 111, 114, 32] T)
   have HTW : Hid ((wordF s.data.toList [32, 111, 114, 32] T).1 <= s.size) := hid (by have := HG1.out.2 (by simpa using HU2.out.le); simpa using this)
   have HADV := hid (rule_adv s.data.toList T HST.out)
   have HG2 := hid (zbh s.data.toList (wordF s.data.toList [32, 111, 114, 32] T))
   have HTX : Hid ((rowF s.data.toList (wordF s.data.toList [32, 111, 114, 32] T)).2.1 <= s.size) := hid (by have := HG2.out.2 (by simpa using HTW.out); simpa using this)
   have HWD : Hid (Calls Tryz.prog 244 #[.pointer (some ⟨rb, 0, none⟩), .string ⟨#[32, 111, 114, 32]⟩] w2 fun e w' => e = .returned (.tuple #[]) /\ RdAt w' rb s (wordF s.data.toList [32, 111, 114, 32] T) /\ Fr (· = rb) w2 w') := hid (z0i rb s ⟨#[32, 111, 114, 32]⟩ T w2 hs (by decide) HU2.out.le HU2.out.rd)
   clear hE HS
   go_wp2_with fail
   refine HWD.out.mono ?_
   rintro e w3 ⟨rfl, hr3, hf3⟩
   have HF3 := hid hf3
   have HN3 := hid (zgt rb s _ w3 hs HTW.out hr3)
   clear hr3 hf3 HWD
   go_wp2_with fail
   refine HN3.out.mono ?_
   rintro e w4 ⟨a2, p2, rfl, hsl4, hr4, hf4⟩
   have HF4 := hid (HF3.out.trans hf4)
   have HO4 : Hid (w4.ownsRow w.heap.size 231 1 (.slice (some ⟨g, 0, none⟩) n cap) n vs) := hid (by rw [HL.out]; exact z0a HU2.out.own (fun k hk => HF4.out.block k (HU2.out.own.lt k hk).2 (by have := (HU2.out.own.lt k hk).1; omega)))
   have HC4 := hid (HU2.out.cat.mono (fun _ _ h => h.kpt (KpT.of_fr HF4.out HU2.out.rd (by decide))))
   have HR4 := hid hr4
   have HSL4 := hid hsl4
   have HZ4 : Hid (w.heap.size <= w4.heap.size) := hid (HU2.out.fr.trans HF4.out).size
   have HNF : Hid (n <= 1000) := hid (by have h := HU2.out.few; rw [HST.out] at h; have := HU2.out.le; have := HL.out; simp only [Bool.toNat_false] at h; omega)
   clear hr4 hf4 HN3 HF3 hsl4
   generalize rowF s.data.toList (wordF s.data.toList [32, 111, 114, 32] T) = q at *
   obtain ⟨sp2, T2⟩ := q
   simp only at HR4 HE HTX HG2 HSL4 HADV ⊢
   obtain ⟨n2l, HNL2⟩ : ∃ n, Hid (n = sp2.length) := ⟨_, hid rfl⟩
   rw [<- HNL2.out]
   have hz4 := HZ4.out
   have hnf := HNF.out
   go_wp2_with (at_builtin; refine wpList_append_lies _ rfl _ _ 208 rfl w.heap.size 231 i0 _ 1 24 Tryz.underlying208 hi hz0 hz1 hz2 rfl (by decide) _ _ _ rfl (HO4.out.alloc _) _ 1 1 [.slice a2 n2l p2] rfl rfl (z0s _ #[.slice a2 n2l p2] _ rfl) (by simp [Value.oneCell']) (by decide) (by unfold maxLen; omega) (by omega) (by simp; omega) (w4.heap.size + 1) (by simp) ?_; intro g5 c5 w5 hown5 hgrow5 _ _; have HO5 := hid hown5; have HG5 := hid hgrow5; clear hown5 hgrow5)
   have HK5 : Hid (KpT [266, 245] w4 w5) := hid ((KpT.of_below (z02 w4 _)).trans (KpT.of_grown HG5.out (HO4.out.alloc _) (by decide)))
   have HU5 : Hid (RuU s rb w w5 (.slice (some ⟨g5, 0, none⟩) (xs ++ [sp2]).length c5) (xs ++ [sp2]) (vs ++ [.slice a2 n2l p2]) T2) := hid
    ⟨by rw [List.length_append, <- HL.out]; exact HO5.out, Cat.snoc (k := 1) (C := CW w5 (Ty [266, 245] w5)) (cs := [.slice a2 n2l p2]) rfl ⟨.slice a2 n2l p2, rfl, by rw [HNL2.out]; exact HSL4.out.kpt HK5.out⟩ (HC4.out.mono (fun _ _ h => h.kpt HK5.out)), z9i HG5.out HR4.out HO4.out hlr, z4e HG5.out (HU2.out.fr.trans HF4.out) HO4.out (Nat.le_refl _), HTX.out, few_rule HU2.out.few HST.out HG1.out.1 HG2.out.1 HADV.out⟩
   go_roundw
   case rel => exact ⟨_, _, g5, c5, T2, f', by rw [List.length_append, <- HL.out]; rfl, HU5, HE, hid (ziq Hf.out HST.out hf2.out HADV.out)⟩
   case measure =>
    have h1 := z73 (m := s.size) HU5.out.rd
    rw [HM.out, h1]
    have h3 := HG2.out.1; have h4 := HTX.out; have h5 := HG1.out.1
    rw [HST.out]
    rcases HADV.out with h | h
    ·rw [h]; simp; omega
    ·cases T2.2 <;> simp <;> omega
end Go.Proofs.YtdnedbcmgkilaaaGreatDoor.Pu

end
