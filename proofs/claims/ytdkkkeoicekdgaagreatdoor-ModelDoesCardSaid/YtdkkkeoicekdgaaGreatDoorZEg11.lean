/- The reader: what the recursive functions tell; a placeholder. -/
import Derived.Test.YtdkkkeoicekdgaaGreatDoorZEg12

section

namespace Go.Proofs.YtdkkkeoicekdgaaGreatDoor
set_option maxHeartbeats 3200000
set_option maxRecDepth 100000
open Go.Lib (hid)
open Go.RowKit
theorem Row.put4 {w : World} {b : Nat} {t : TypeId} {x0 x1 x2 x3 : Value} (h : Row w b t [x0, x1, x2, x3]) (a c d e : Value) : Row ((((w.setCell ⟨b, 0, none⟩ a).setCell ⟨b, 1, none⟩ c).setCell ⟨b, 2, none⟩ d).setCell ⟨b, 3, none⟩ e) b t [a, c, d, e] := (((h.set 0 a).set 1 c).set 2 d).set 3 e
theorem Row.put2 {w : World} {b : Nat} {t : TypeId} {x0 x1 : Value} (h : Row w b t [x0, x1]) (a c : Value) : Row ((w.setCell ⟨b, 0, none⟩ a).setCell ⟨b, 1, none⟩ c) b t [a, c] := (h.set 0 a).set 1 c
theorem But.put4 (g : Nat) (w : World) (a b c d : Value) : But g w ((((w.setCell ⟨g, 0, none⟩ a).setCell ⟨g, 1, none⟩ b).setCell ⟨g, 2, none⟩ c).setCell ⟨g, 3, none⟩ d) := ((((But.refl g w).set 0 a).set 1 b).set 2 c).set 3 d
theorem But.put2 (g : Nat) (w : World) (a b : Value) : But g w ((w.setCell ⟨g, 0, none⟩ a).setCell ⟨g, 1, none⟩ b) := ((But.refl g w).set 0 a).set 1 b
theorem But.fr {g : Nat} {w w1 w' : World} {X : Nat -> Prop} (h : Fr X w w1) (k : But g w1 w') (hg : w.heap.size <= g) : Fr X w w' :=
 ⟨k.os.trans h.os, k.tape.trans h.tape, k.output.trans h.output, by rw [k.size]; exact h.size, fun i hi hx => (k.block i (by omega)).trans (h.block i hi hx)⟩
theorem Row.fr {w w' : World} {b rb : Nat} {t : TypeId} {cs : List Value} (h : Row w b t cs) (hf : Fr (· = rb) w w') (hb : b ≠ rb) : Row w' b t cs := h.keep (hf.block b h.lt hb)
theorem RdAt.but {w w' : World} {rb g : Nat} {s : BA} {o : Nat} {S : St} (h : RdAt w rb s o S) (k : But g w w') (hg : rb ≠ g) : RdAt w' rb s o S := h.keep (k.block rb hg)
theorem SlC.fsh {w1 w2 : World} {B B2 n : Nat} {v : Value} {xs : List Cs} (h : SlC w1 (Fsh B2 w1) n v xs) (hk : ∀ b, B2 <= b -> b < w1.heap.size -> w2.heap[b]? = w1.heap[b]?) (hB : B <= B2) (hz : w1.heap.size <= w2.heap.size) : SlC w2 (Fsh B w2) n v xs :=
 h.keep (fun b hb => hk b hb.1 hb.2) (fun b hb => ⟨by omega, by omega⟩)
theorem SlP.fsh {w1 w2 : World} {B B2 n : Nat} {v : Value} {xs : List Pt} (h : SlP w1 (Fsh B2 w1) n v xs) (hk : ∀ b, B2 <= b -> b < w1.heap.size -> w2.heap[b]? = w1.heap[b]?) (hB : B <= B2) (hz : w1.heap.size <= w2.heap.size) : SlP w2 (Fsh B w2) n v xs :=
 h.keep (fun b hb => hk b hb.1 hb.2) (fun b hb => ⟨by omega, by omega⟩)
def zjb (rb : Nat) (s : BA) (o : Nat) (w : World) (r : List Cs × St) (e : Ending) (w' : World) : Prop :=
 ∃ a cap n, e = .returned (.slice a r.1.length cap) /\ SlC w' (Fsh w.heap.size w') n (.slice a r.1.length cap) r.1 /\ RdAt w' rb s o r.2 /\ Fr (· = rb) w w'
def zbj (rb : Nat) (s : BA) (o : Nat) (w : World) (r : List Pt × St) (e : Ending) (w' : World) : Prop :=
 ∃ a cap n, e = .returned (.slice a r.1.length cap) /\ SlP w' (Fsh w.heap.size w') n (.slice a r.1.length cap) r.1 /\ RdAt w' rb s o r.2 /\ Fr (· = rb) w w'
def z9r (rb : Nat) (s : BA) (o : Nat) (w : World) (r : Pt × St) (e : Ending) (w' : World) : Prop :=
 ∃ v n, e = .returned (.agg #[.int .i64 r.1.k, .string r.1.t, .string r.1.n, v]) /\ SlC w' (Fsh w.heap.size w') n v r.1.cs /\ RdAt w' rb s o r.2 /\ Fr (· = rb) w w'
def zf1 (rb : Nat) (s : BA) (o : Nat) (w : World) (r : Cs × St) (e : Ending) (w' : World) : Prop :=
 ∃ v n, e = .returned (.agg #[.string r.1.key, v]) /\ SlP w' (Fsh w.heap.size w') n v r.1.kids /\ RdAt w' rb s o r.2 /\ Fr (· = rb) w w'
def z7u (f : Nat) : Prop := ∀ (h : Bool) (o rb : Nat) (s : BA) (S : St) (w : World), s.size <= 2000 -> o + f <= 4000 -> Wf s.data.toList S -> ((oneF s.data.toList [32] S).2.2 = 0 -> s.size - (oneF s.data.toList [32] S).2.1 < f) -> RdAt w rb s o S -> Env w rb ->
 Calls Tryz.prog 269 #[.pointer (some ⟨rb, 0, none⟩), .bool h] w (zjb rb s o w (z09 s.data.toList f h o [] (oneF s.data.toList [32] S)))
def z6s (f : Nat) : Prop := ∀ (h : Bool) (o rb : Nat) (s : BA) (S : St) (w : World), s.size <= 2000 -> o + f <= 4000 -> Wf s.data.toList S -> (S.2 = 0 -> s.size - S.1 < f) -> RdAt w rb s o S -> Env w rb ->
 Calls Tryz.prog 189 #[.pointer (some ⟨rb, 0, none⟩), .bool h] w (zbj rb s o w (z0c s.data.toList f h o [] S))
theorem hole_sel {l : List UInt8} {cf : Bool -> List UInt8 × St -> List Cs × St} {h : Bool} {S : St} {a : List UInt8 × St} (ha : longF l nameB (wordF l [123] S) = a) (hs : nextF l [44, 32, 115] a.2 = true) :
  holeG l cf h S = (.mk 5 (ba []) (ba a.1) (cf h (oneF l [32] (wordF l seW a.2))).1, (cf h (oneF l [32] (wordF l seW a.2))).2) := by
 unfold holeG; simp only; rw [ha, if_pos hs]
theorem hole_plu {l : List UInt8} {cf : Bool -> List UInt8 × St -> List Cs × St} {h : Bool} {S : St} {a : List UInt8 × St} (ha : longF l nameB (wordF l [123] S) = a) (hs : nextF l [44, 32, 115] a.2 = false) (hp : nextF l [44] a.2 = true) :
  holeG l cf h S = (.mk 4 (ba []) (ba a.1) (cf true (oneF l [32] (wordF l plW a.2))).1, (cf true (oneF l [32] (wordF l plW a.2))).2) := by
 unfold holeG; simp only; rw [ha, if_neg (by rw [hs]; simp), if_pos hp]
theorem hole_arg {l : List UInt8} {cf : Bool -> List UInt8 × St -> List Cs × St} {h : Bool} {S : St} {a : List UInt8 × St} (ha : longF l nameB (wordF l [123] S) = a) (hs : nextF l [44, 32, 115] a.2 = false) (hp : nextF l [44] a.2 = false) :
  holeG l cf h S = (.mk 2 (ba []) (ba a.1) [], wordF l [125] a.2) := by
 unfold holeG; simp only; rw [ha, if_neg (by rw [hs]; simp), if_neg (by rw [hp]; simp)]
theorem hole_any (f : Nat) (HC : z7u f) (h : Bool) (o rb : Nat) (s : BA) (S : St) (w : World) (hs : s.size <= 2000) (ho : o + f <= 4000) (hS : Wf s.data.toList S) (hn : nextF s.data.toList [123] S = true) (hf : s.size - S.1 < f + 1) (hR : RdAt w rb s o S) (hE : Env w rb) :
  Calls Tryz.prog 246 #[.pointer (some ⟨rb, 0, none⟩), .bool h] w (z9r rb s o w (holeG s.data.toList (fun h b => z09 s.data.toList f h o [] b) h S)) := by
 have aB := hR.lt;have ah : Hid (Row (w.alloc (.cells #[.int .i64 0, .string ⟨#[]⟩, .string ⟨#[]⟩, .slice none 0 0] 263)) w.heap.size 263 [.int .i64 0, .string ⟨#[]⟩, .string ⟨#[]⟩, .slice none 0 0]) := hid (z02 w #[.int .i64 0, .string ⟨#[]⟩, .string ⟨#[]⟩, .slice none 0 0] 263);have ai : Hid (RdAt (w.alloc (.cells #[.int .i64 0, .string ⟨#[]⟩, .string ⟨#[]⟩, .slice none 0 0] 263)) rb s o S) := hid (hR.alloc _);have aj : Hid (Env (w.alloc (.cells #[.int .i64 0, .string ⟨#[]⟩, .string ⟨#[]⟩, .slice none 0 0] 263)) rb) := hid (hE.below (z03 _ _));have aq : Hid (Fr (· = rb) w (w.alloc (.cells #[.int .i64 0, .string ⟨#[]⟩, .string ⟨#[]⟩, .slice none 0 0] 263))) := hid ((Fr.refl _ _).alloc _);have g : Hid (Calls Tryz.prog 247 #[.pointer (some ⟨rb, 0, none⟩), .string ⟨#[123]⟩] (w.alloc (.cells #[.int .i64 0, .string ⟨#[]⟩, .string ⟨#[]⟩, .slice none 0 0] 263)) _) := hid (z13 rb s ⟨#[123]⟩ o S _ hs (by decide) hS ai.out);have ar := hid (z30 (z06 s.data.toList [123] S) hS)
 have aA : S.1 + 1 <= (wordF s.data.toList [123] S).1 := by rw [z3i hn]; exact (z06 _ [] (S.1 + 1, 0)).1
 have ay := z0z (z1h.1 hn).2;rw [z08] at ay;clear hR hE hn
 go_enter Tryz.func246, Tryz.ntmps246
 go_wp2_with fail
 generalize w.alloc (.cells #[.int .i64 0, .string ⟨#[]⟩, .string ⟨#[]⟩, .slice none 0 0] 263) = w1 at *
 refine g.out.mono ?_;rintro e w2 ⟨rfl, Z, T⟩
 try rw [show ((⟨#[123]⟩ : BA).data.toList) = [123] from rfl] at Z
 have au := hid (ah.out.fr T (by omega));have aa := hid (aj.out.fr T);have aw := hid (aq.out.trans T);have HL := hid (z67 rb s o _ w2 hs ar.out Z aa.out);have HG := hid (z3c s.data.toList nameB (wordF s.data.toList [123] S));clear Z T g ah ai aj aq;obtain ⟨A, HA⟩ : ∃ A, Hid (longF s.data.toList nameB (wordF s.data.toList [123] S) = A) := ⟨_, hid rfl⟩;rw [HA.out] at HL HG;obtain ⟨nm, U⟩ := A;simp only at HL HG
 go_wp2_with fail
 refine HL.out.mono ?_;rintro e w3 ⟨rfl, af, X⟩;have q := hid (au.out.fr X (by omega));have D := hid (aa.out.fr X);have t := hid (aw.out.trans X);have j := hid af;have u := hid (z30 HG.out ar.out);have k : Hid (Calls Tryz.prog 219 #[.pointer (some ⟨rb, 0, none⟩), .string ⟨#[44, 32, 115]⟩] w3 fun e w' => e = .returned (.bool (nextF s.data.toList [44, 32, 115] U)) /\ Same w3 w') := hid (z2i rb s ⟨#[44, 32, 115]⟩ o U w3 hs u.out (by decide) af);have aC := HG.out.1;clear af X HL au aa aw
 have aD : ByteArray.extract ⟨#[44, 32, 115, 101, 108, 101, 99, 116, 44]⟩ 0 3 = ⟨#[44, 32, 115]⟩ := by decide
 cases hb1 : nextF s.data.toList [44, 32, 115] U with
 | true =>
  rw [hb1] at k;have HK := hid (hole_sel (cf := fun h b => z09 s.data.toList f h o [] b) (h := h) HA.out hb1)
  go_wp2_with fail
  refine k.out.mono ?_;rintro e w4 ⟨rfl, d⟩;clear hb1;have x := hid (j.out.same d);have y := hid (d.row q.out);have G := hid (D.out.same d);have z := hid (t.out.trans (Fr.of_same d));have g : Hid (Calls Tryz.prog 247 #[.pointer (some ⟨rb, 0, none⟩), .string ⟨#[44, 32, 115, 101, 108, 101, 99, 116, 44]⟩] w4 fun e w' => e = .returned (.tuple #[]) /\ RdAt w' rb s o (wordF s.data.toList seW U) /\ Fr (· = rb) w4 w') := hid (z13 rb s ⟨#[44, 32, 115, 101, 108, 101, 99, 116, 44]⟩ o U w4 hs (by decide) u.out x.out);have H := hid (z06 s.data.toList seW U);clear d k j q D t x
  go_wp2_with fail
  refine g.out.mono ?_;rintro e w5 ⟨rfl, I, m⟩;have l := hid (y.out.fr m (by omega));have J := hid (G.out.fr m);have B := hid (z.out.trans m);have ag := hid (z30 H.out u.out);have az := H.out.1;have L : Hid (Calls Tryz.prog 269 #[.pointer (some ⟨rb, 0, none⟩), .bool h] w5 _) := hid (HC h o rb s _ w5 hs ho ag.out (fun e => by have := zcc e; omega) I J.out);clear I m g y G z
  generalize z09 s.data.toList f h o [] (oneF s.data.toList [32] (wordF s.data.toList seW U)) = r at *
  obtain ⟨cs, V⟩ := r
  go_wp2_with fail
  refine L.out.mono ?_;rintro e w6 ⟨a, p, n, rfl, M, C, i⟩;have N := hid M;have E := hid C;have c := hid (l.out.fr i (by omega));have O := hid (B.out.trans i);have HZ : Hid (w.heap.size < w5.heap.size) := hid l.out.lt;clear M C i L l J B;simp only at N E;obtain ⟨ln, R⟩ := nmd (cs.length);rw [<- R.out];have q0 := c.out.c0;have q1 := c.out.c1;have q2 := c.out.c2;have q3 := c.out.c3;have y0 := c.out.thaw 0;have y1 := c.out.thaw 1;have y2 := c.out.thaw 2;have y3 := c.out.thaw 3;go_wp2;have Q7 := c.out.put4 (.int .i64 5) (.string ⟨#[]⟩) (.string (ba nm)) (.slice a ln p);have B7 := But.put4 w.heap.size w6 (.int .i64 5) (.string ⟨#[]⟩) (.string (ba nm)) (.slice a ln p)
  generalize (((w6.setCell ⟨w.heap.size, 0, none⟩ (.int .i64 5)).setCell ⟨w.heap.size, 1, none⟩ (.string ⟨#[]⟩)).setCell ⟨w.heap.size, 2, none⟩ (.string (ba nm))).setCell ⟨w.heap.size, 3, none⟩ (.slice a ln p) = w7 at *
  have e0 := Q7.c0;have e1 := Q7.c1;have e2 := Q7.c2;have e3 := Q7.c3;have hz := HZ.out
  exact bodyPost_ret (v := .agg #[.int .i64 5, .string ⟨#[]⟩, .string (ba nm), .slice a ln p]) (by simp [results, Tryz.results246, go_sem, e0, e1, e2, e3]) rfl (by
   rw [HK.out, R.out]
   exact ⟨_, n, rfl, N.out.fsh (fun b hb _ => B7.block b (by omega)) (by omega) (by rw [B7.size]; exact Nat.le_refl _), E.out.but B7 (by omega), But.fr O.out B7 (Nat.le_refl _)⟩)
 | false =>
  rw [hb1] at k
  cases hb2 : nextF s.data.toList [44] U with
  | true =>
   have HK := hid (hole_plu (cf := fun h b => z09 s.data.toList f h o [] b) (h := h) HA.out hb1 hb2)
   go_wp2_with fail
   refine k.out.mono ?_;rintro e w4 ⟨rfl, d⟩;have F : Hid (Calls Tryz.prog 219 #[.pointer (some ⟨rb, 0, none⟩), .string ⟨#[44]⟩] w4 fun e w' => e = .returned (.bool (nextF s.data.toList [44] U)) /\ Same w4 w') := hid (z2i rb s ⟨#[44]⟩ o U w4 hs u.out (by decide) (j.out.same d));rw [hb2] at F;have j := hid (j.out.same d);have q := hid (d.row q.out);have D := hid (D.out.same d);have t := hid (t.out.trans (Fr.of_same d));clear d k hb1 hb2
   go_wp2_with fail
   refine F.out.mono ?_;rintro e w4 ⟨rfl, d⟩;have k := 0;have x := hid (j.out.same d);have y := hid (d.row q.out);have G := hid (D.out.same d);have z := hid (t.out.trans (Fr.of_same d));have g : Hid (Calls Tryz.prog 247 #[.pointer (some ⟨rb, 0, none⟩), .string ⟨#[44, 32, 112, 108, 117, 114, 97, 108, 44]⟩] w4 fun e w' => e = .returned (.tuple #[]) /\ RdAt w' rb s o (wordF s.data.toList plW U) /\ Fr (· = rb) w4 w') := hid (z13 rb s ⟨#[44, 32, 112, 108, 117, 114, 97, 108, 44]⟩ o U w4 hs (by decide) u.out x.out);have H := hid (z06 s.data.toList plW U);clear d k j q D t x
   go_wp2_with fail
   refine g.out.mono ?_;rintro e w5 ⟨rfl, I, m⟩;have l := hid (y.out.fr m (by omega));have J := hid (G.out.fr m);have B := hid (z.out.trans m);have ag := hid (z30 H.out u.out);have az := H.out.1;have L : Hid (Calls Tryz.prog 269 #[.pointer (some ⟨rb, 0, none⟩), .bool true] w5 _) := hid (HC true o rb s _ w5 hs ho ag.out (fun e => by have := zcc e; omega) I J.out);clear I m g y G z
   generalize z09 s.data.toList f true o [] (oneF s.data.toList [32] (wordF s.data.toList plW U)) = r at *
   obtain ⟨cs, V⟩ := r
   go_wp2_with fail
   refine L.out.mono ?_;rintro e w6 ⟨a, p, n, rfl, M, C, i⟩;have N := hid M;have E := hid C;have c := hid (l.out.fr i (by omega));have O := hid (B.out.trans i);have HZ : Hid (w.heap.size < w5.heap.size) := hid l.out.lt;clear M C i L l J B;simp only at N E;obtain ⟨ln, R⟩ := nmd (cs.length);rw [<- R.out];have q0 := c.out.c0;have q1 := c.out.c1;have q2 := c.out.c2;have q3 := c.out.c3;have y0 := c.out.thaw 0;have y1 := c.out.thaw 1;have y2 := c.out.thaw 2;have y3 := c.out.thaw 3;go_wp2;have Q7 := c.out.put4 (.int .i64 4) (.string ⟨#[]⟩) (.string (ba nm)) (.slice a ln p);have B7 := But.put4 w.heap.size w6 (.int .i64 4) (.string ⟨#[]⟩) (.string (ba nm)) (.slice a ln p)
   generalize (((w6.setCell ⟨w.heap.size, 0, none⟩ (.int .i64 4)).setCell ⟨w.heap.size, 1, none⟩ (.string ⟨#[]⟩)).setCell ⟨w.heap.size, 2, none⟩ (.string (ba nm))).setCell ⟨w.heap.size, 3, none⟩ (.slice a ln p) = w7 at *
   have e0 := Q7.c0;have e1 := Q7.c1;have e2 := Q7.c2;have e3 := Q7.c3;have hz := HZ.out
   exact bodyPost_ret (v := .agg #[.int .i64 4, .string ⟨#[]⟩, .string (ba nm), .slice a ln p]) (by simp [results, Tryz.results246, go_sem, e0, e1, e2, e3]) rfl (by
    rw [HK.out, R.out]
    exact ⟨_, n, rfl, N.out.fsh (fun b hb _ => B7.block b (by omega)) (by omega) (by rw [B7.size]; exact Nat.le_refl _), E.out.but B7 (by omega), But.fr O.out B7 (Nat.le_refl _)⟩)
  | false =>
   have HK := hid (hole_arg (cf := fun h b => z09 s.data.toList f h o [] b) (h := h) HA.out hb1 hb2)
   go_wp2_with fail
   refine k.out.mono ?_;rintro e w4 ⟨rfl, d⟩;have F : Hid (Calls Tryz.prog 219 #[.pointer (some ⟨rb, 0, none⟩), .string ⟨#[44]⟩] w4 fun e w' => e = .returned (.bool (nextF s.data.toList [44] U)) /\ Same w4 w') := hid (z2i rb s ⟨#[44]⟩ o U w4 hs u.out (by decide) (j.out.same d));rw [hb2] at F;have x := hid (j.out.same d);have y := hid (d.row q.out);have z := hid (t.out.trans (Fr.of_same d));clear d k hb1 hb2 j q D t
   go_wp2_with fail
   refine F.out.mono ?_;rintro e w5 ⟨rfl, Y⟩;have ax := hid (x.out.same Y);have l := hid (Y.row y.out);have B := hid (z.out.trans (Fr.of_same Y));clear Y F x y z;have g : Hid (Calls Tryz.prog 247 #[.pointer (some ⟨rb, 0, none⟩), .string ⟨#[125]⟩] w5 fun e w' => e = .returned (.tuple #[]) /\ RdAt w' rb s o (wordF s.data.toList [125] U) /\ Fr (· = rb) w5 w') := hid (z13 rb s ⟨#[125]⟩ o U w5 hs (by decide) u.out ax.out)
   go_wp2_with fail
   refine g.out.mono ?_;rintro e w6 ⟨rfl, C, i⟩;have E := hid C;have c := hid (l.out.fr i (by omega));have O := hid (B.out.trans i);clear C i g l B ax;have q0 := c.out.c0;have q1 := c.out.c1;have q2 := c.out.c2;have q3 := c.out.c3;have y0 := c.out.thaw 0;have y1 := c.out.thaw 1;have y2 := c.out.thaw 2;have y3 := c.out.thaw 3;go_wp2;have Q7 := c.out.put4 (.int .i64 2) (.string ⟨#[]⟩) (.string (ba nm)) (.slice none 0 0);have B7 := But.put4 w.heap.size w6 (.int .i64 2) (.string ⟨#[]⟩) (.string (ba nm)) (.slice none 0 0)
   generalize (((w6.setCell ⟨w.heap.size, 0, none⟩ (.int .i64 2)).setCell ⟨w.heap.size, 1, none⟩ (.string ⟨#[]⟩)).setCell ⟨w.heap.size, 2, none⟩ (.string (ba nm))).setCell ⟨w.heap.size, 3, none⟩ (.slice none 0 0) = w7 at *
   have e0 := Q7.c0;have e1 := Q7.c1;have e2 := Q7.c2;have e3 := Q7.c3
   exact bodyPost_ret (v := .agg #[.int .i64 2, .string ⟨#[]⟩, .string (ba nm), .slice none 0 0]) (by simp [results, Tryz.results246, go_sem, e0, e1, e2, e3]) rfl (by
    rw [HK.out]
    exact ⟨_, 0, rfl, Sl.nil _ _ _ _, E.out.but B7 (by omega), But.fr O.out B7 (Nat.le_refl _)⟩)

set_option maxHeartbeats 3200000
set_option maxRecDepth 100000
theorem z7n {l : List UInt8} {pf : St -> List Pt × St} {o : Nat} {S K R : St} {ky : List UInt8} (h1 : keyF l S = (ky, K)) (h2 : deepF l o (wordF l [32] K) = R) :
  z16 l pf o S = (.mk (ba ky) (pf (wordF l [123] R)).1, wordF l [125] (pf (wordF l [123] R)).2) := by
 unfold z16; simp only; rw [h1]; simp only; rw [h2]
theorem deep_yes {l : List UInt8} {o : Nat} {S : St} (h : nextF l [123] S = true) (ho : o = 32) : deepF l o S = (S.1, 12) := by unfold deepF; rw [if_pos ⟨h, ho⟩]
theorem deep_no1 {l : List UInt8} {o : Nat} {S : St} (h : nextF l [123] S = false) : deepF l o S = S := by unfold deepF; rw [if_neg (fun e => by rw [h] at e; cases e.1)]
theorem deep_no2 {l : List UInt8} {o : Nat} {S : St} (h : o ≠ 32) : deepF l o S = S := by unfold deepF; rw [if_neg (fun e => h e.2)]
theorem zfs (f : Nat) (HP : z6s f) (h : Bool) (o rb : Nat) (s : BA) (S : St) (w : World) (hs : s.size <= 2000) (ho : o + 1 + f <= 4000) (hS : Wf s.data.toList S) (hf : s.size - S.1 < f + 1) (hR : RdAt w rb s o S) (hE : Env w rb) :
  Calls Tryz.prog 284 #[.pointer (some ⟨rb, 0, none⟩), .bool h] w (zf1 rb s o w (z16 s.data.toList (fun S => z0c s.data.toList f h (o + 1) [] S) o S)) := by
 have aZ := hR.lt;obtain ⟨p, aG⟩ := nmd (o + 1);rw [<- aG.out]
 have bc : ((o : Int) + 1) = (p : Int) := by have := aG.out; omega
 have bd : ((p : Int) - 1) = (o : Int) := by omega
 have aA : Hid (p + f <= 4000) := hid (by have := aG.out; omega)
 have bf : o <= 4000 := by omega
 have bg : p <= 4000 := by have := aA.out; omega
 have aM : Hid (Row (w.alloc (.cells #[.string ⟨#[]⟩, .slice none 0 0] 284)) w.heap.size 284 [.string ⟨#[]⟩, .slice none 0 0]) := hid (z02 w #[.string ⟨#[]⟩, .slice none 0 0] 284);have aN : Hid (RdAt (w.alloc (.cells #[.string ⟨#[]⟩, .slice none 0 0] 284)) rb s o S) := hid (hR.alloc _);have aH : Hid (Env (w.alloc (.cells #[.string ⟨#[]⟩, .slice none 0 0] 284)) rb) := hid (hE.below (z03 _ _));have aO : Hid (Fr (· = rb) w (w.alloc (.cells #[.string ⟨#[]⟩, .slice none 0 0] 284))) := hid ((Fr.refl _ _).alloc _);have aB := hid (zcm rb s o S _ hs hS aN.out aH.out);have aC := hid (zay s.data.toList S);have HS := hid hS;clear hR hE hS ho;obtain ⟨A, HA⟩ : ∃ A, Hid (keyF s.data.toList S = A) := ⟨_, hid rfl⟩;rw [HA.out] at aB aC;obtain ⟨ky, K⟩ := A;simp only at aB aC
 go_enter Tryz.func284, Tryz.ntmps284
 go_wp2_with fail
 generalize w.alloc (.cells #[.string ⟨#[]⟩, .slice none 0 0] 284) = w1 at *
 refine aB.out.mono ?_;rintro e w2 ⟨rfl, aP, aD⟩;have aQ := hid (aM.out.fr aD (by omega));have aR := hid (aH.out.fr aD);have aS := hid (aO.out.trans aD);have aT := hid (z30 aC.out HS.out);have bh := aC.out.1;have i : Hid (Calls Tryz.prog 247 #[.pointer (some ⟨rb, 0, none⟩), .string ⟨#[32]⟩] w2 fun e w' => e = .returned (.tuple #[]) /\ RdAt w' rb s o (wordF s.data.toList [32] K) /\ Fr (· = rb) w2 w') := hid (z13 rb s ⟨#[32]⟩ o K w2 hs (by decide) aT.out aP);have aI := hid (z06 s.data.toList [32] K);obtain ⟨U, HU⟩ : ∃ U, Hid (wordF s.data.toList [32] K = U) := ⟨_, hid rfl⟩;rw [HU.out] at i aI;clear aP aD aB aM aH aO aN
 go_wp2_with fail
 refine i.out.mono ?_;rintro e w3 ⟨rfl, aJ, aE⟩;have aj := hid aJ;have aq := hid (aQ.out.fr aE (by omega));have ar := hid (aR.out.fr aE);have au := hid (aS.out.trans aE);have aK := hid (z30 aI.out aT.out);have bi := aI.out.1;have C : Hid (Calls Tryz.prog 219 #[.pointer (some ⟨rb, 0, none⟩), .string ⟨#[123]⟩] w3 fun e w' => e = .returned (.bool (nextF s.data.toList [123] U)) /\ Same w3 w') := hid (z2i rb s ⟨#[123]⟩ o U w3 hs aK.out (by decide) aJ);clear aJ aE i aQ aR aS
 cases hb1 : nextF s.data.toList [123] U with
 | true =>
  rw [hb1] at C
  by_cases h32 : o = 32
  ·have hB : ((o : Int) == (32 : Int)) = true := by rw [beq_iff_eq]; omega
   obtain ⟨R, j⟩ : ∃ R : St, Hid (R = (U.1, 12)) := ⟨_, hid rfl⟩;have HK := hid (z7n (o := o) (pf := fun S => z0c s.data.toList f h p [] S) (R := R) HA.out (by rw [HU.out, deep_yes hb1 h32, j.out]))
   have D : Hid (Wf s.data.toList R) := hid (by
    rw [j.out];have ai := z0z (z1h.1 hb1).2
    exact ⟨by show U.1 <= _; omega, .inr (.inr ⟨.inr rfl, ai⟩)⟩)
   have aU : S.1 <= R.1 := by rw [j.out]; show S.1 <= U.1; omega
   clear hb1 h32
   go_wp2_with fail
   refine C.out.mono ?_;rintro e w4 ⟨rfl, c⟩;have aw := hid (aj.out.same c);have aV := hid (c.row aq.out);have aW := hid (ar.out.same c);have aX := hid (au.out.trans (Fr.of_same c));clear c C aj aq ar au;have B : Hid (RdAt (w4.setCell ⟨rb, 3, none⟩ (.int .i64 12)) rb s o R) := hid (by rw [j.out]; exact aw.out.set3 12);have E : Hid (Row (w4.setCell ⟨rb, 3, none⟩ (.int .i64 12)) w.heap.size 284 [.string ⟨#[]⟩, .slice none 0 0]) := hid (aV.out.fr (z0l 3 _) (by omega));have F : Hid (Env (w4.setCell ⟨rb, 3, none⟩ (.int .i64 12)) rb) := hid (aW.out.fr (z0l 3 _));have G : Hid (Fr (· = rb) w (w4.setCell ⟨rb, 3, none⟩ (.int .i64 12))) := hid (aX.out.trans (z0l 3 _));have c2 := aw.out.c2;have z3 := aw.out.thaw 3;have c3 := aw.out.c3
   go_wp2_with fail
   generalize w4.setCell ⟨rb, 3, none⟩ (.int .i64 12) = w5 at *
   clear c2 z3 c3 aw aV aW aX;have i : Hid (Calls Tryz.prog 247 #[.pointer (some ⟨rb, 0, none⟩), .string ⟨#[123]⟩] w5 fun e w' => e = .returned (.tuple #[]) /\ RdAt w' rb s o (wordF s.data.toList [123] R) /\ Fr (· = rb) w5 w') := hid (z13 rb s ⟨#[123]⟩ o R w5 hs (by decide) D.out B.out);have H := hid (z06 s.data.toList [123] R);have I : Hid ((wordF s.data.toList [123] R).2 = 0 -> R.1 + 1 <= (wordF s.data.toList [123] R).1) := hid z4d;obtain ⟨T, HT⟩ : ∃ T, Hid (wordF s.data.toList [123] R = T) := ⟨_, hid rfl⟩;rw [HT.out] at i H I HK;clear B
   go_wp2_with fail
   refine i.out.mono ?_;rintro e w6 ⟨rfl, J, k⟩;have l := hid J;have L := hid (E.out.fr k (by omega));have M := hid (F.out.fr k);have N := hid (G.out.trans k);have x := hid (z30 H.out D.out);have aF := z3j x.out;clear J k i E F G;have O := hid (HP h p rb s T (w6.setCell ⟨rb, 2, none⟩ (.int .i64 p)) hs aA.out x.out (fun e => by have := I.out e; omega) (l.out.set2 p) (M.out.fr (z0l 2 _)));have X := hid (z2k s.data.toList f h p [] T);have y : Hid (Row (w6.setCell ⟨rb, 2, none⟩ (.int .i64 p)) w.heap.size 284 [.string ⟨#[]⟩, .slice none 0 0]) := hid (L.out.fr (z0l 2 _) (by omega));have Y : Hid (Fr (· = rb) w (w6.setCell ⟨rb, 2, none⟩ (.int .i64 p))) := hid (N.out.trans (z0l 2 _));have z2 := l.out.thaw 2;have c2 := l.out.c2;clear L M N l
   generalize z0c s.data.toList f h p [] T = r at *
   obtain ⟨kids, V⟩ := r;simp only at X HK
   go_wp2_with fail
   generalize w6.setCell ⟨rb, 2, none⟩ (.int .i64 p) = w7 at *
   refine O.out.mono ?_;rintro e w8 ⟨a, m, n, rfl, z, d, q⟩;simp only at z d;have ax := hid (z30 X.out x.out);have Z := hid z;have HZ : Hid (w.heap.size < w7.heap.size) := hid y.out.lt;have aa := hid (y.out.fr q (by omega));have af := hid (Y.out.trans q);have t : Hid (RdAt (w8.setCell ⟨rb, 2, none⟩ (.int .i64 o)) rb s o V) := hid (d.set2 o);have u : Hid (Calls Tryz.prog 247 #[.pointer (some ⟨rb, 0, none⟩), .string ⟨#[125]⟩] (w8.setCell ⟨rb, 2, none⟩ (.int .i64 o)) fun e w' => e = .returned (.tuple #[]) /\ RdAt w' rb s o (wordF s.data.toList [125] V) /\ Fr (· = rb) (w8.setCell ⟨rb, 2, none⟩ (.int .i64 o)) w') := hid (z13 rb s ⟨#[125]⟩ o V _ hs (by decide) ax.out t.out);clear z2 c2;have z2 := d.thaw 2;have c2 := d.c2;obtain ⟨ln, ay⟩ := nmd (kids.length);rw [<- ay.out] at Z ⊢;have aY : w7.heap.size <= w8.heap.size := q.size;clear z d q O y Y t
   go_wp2_with fail
   refine u.out.mono ?_;rintro e w9 ⟨rfl, ag, ah⟩;have HX := hid ((z0l (w := w8) (rb := rb) 2 (.int .i64 o)).trans ah);have t := hid ag;have g := hid (aa.out.fr HX.out (by omega));have az := hid (af.out.trans HX.out);clear ag ah u aa af z2 c2;have q0 := g.out.c0;have q1 := g.out.c1;have y0 := g.out.thaw 0;have y1 := g.out.thaw 1;go_wp2;have Q7 := g.out.put2 (.string (ba ky)) (.slice a ln m);have B7 := But.put2 w.heap.size w9 (.string (ba ky)) (.slice a ln m)
   generalize (w9.setCell ⟨w.heap.size, 0, none⟩ (.string (ba ky))).setCell ⟨w.heap.size, 1, none⟩ (.slice a ln m) = wa at *
   have e0 := Q7.c0;have e1 := Q7.c1;have hz := HZ.out
   exact bodyPost_ret (v := .agg #[.string (ba ky), .slice a ln m]) (by simp [results, Tryz.results284, go_sem, e0, e1]) rfl (by
    rw [HK.out]
    exact ⟨_, n, rfl, Z.out.fsh (fun b hb ai => (B7.block b (by omega)).trans (HX.out.block b ai (by omega))) (by omega) (by rw [B7.size]; exact HX.out.size), t.out.but B7 (by omega), But.fr az.out B7 (Nat.le_refl _)⟩)
  ·have hB : ((o : Int) == (32 : Int)) = false := by rw [beq_eq_false_iff_ne]; omega
   obtain ⟨R, j⟩ : ∃ R : St, Hid (R = U) := ⟨_, hid rfl⟩;have HK := hid (z7n (o := o) (pf := fun S => z0c s.data.toList f h p [] S) (R := R) HA.out (by rw [HU.out, deep_no2 h32, j.out]));have D : Hid (Wf s.data.toList R) := hid (by rw [j.out]; exact aK.out)
   have aU : S.1 <= R.1 := by rw [j.out]; omega
   clear hb1 h32
   go_wp2_with fail
   refine C.out.mono ?_;rintro e w5 ⟨rfl, c⟩;have B : Hid (RdAt w5 rb s o R) := hid (by rw [j.out]; exact aj.out.same c);have E := hid (c.row aq.out);have F := hid (ar.out.same c);have G := hid (au.out.trans (Fr.of_same c));have c2 := B.out.c2;clear c C aj aq ar au;have i : Hid (Calls Tryz.prog 247 #[.pointer (some ⟨rb, 0, none⟩), .string ⟨#[123]⟩] w5 fun e w' => e = .returned (.tuple #[]) /\ RdAt w' rb s o (wordF s.data.toList [123] R) /\ Fr (· = rb) w5 w') := hid (z13 rb s ⟨#[123]⟩ o R w5 hs (by decide) D.out B.out);have H := hid (z06 s.data.toList [123] R);have I : Hid ((wordF s.data.toList [123] R).2 = 0 -> R.1 + 1 <= (wordF s.data.toList [123] R).1) := hid z4d;obtain ⟨T, HT⟩ : ∃ T, Hid (wordF s.data.toList [123] R = T) := ⟨_, hid rfl⟩;rw [HT.out] at i H I HK;clear B
   go_wp2_with fail
   refine i.out.mono ?_;rintro e w6 ⟨rfl, J, k⟩;have l := hid J;have L := hid (E.out.fr k (by omega));have M := hid (F.out.fr k);have N := hid (G.out.trans k);have x := hid (z30 H.out D.out);have aF := z3j x.out;clear J k i E F G;have O := hid (HP h p rb s T (w6.setCell ⟨rb, 2, none⟩ (.int .i64 p)) hs aA.out x.out (fun e => by have := I.out e; omega) (l.out.set2 p) (M.out.fr (z0l 2 _)));have X := hid (z2k s.data.toList f h p [] T);have y : Hid (Row (w6.setCell ⟨rb, 2, none⟩ (.int .i64 p)) w.heap.size 284 [.string ⟨#[]⟩, .slice none 0 0]) := hid (L.out.fr (z0l 2 _) (by omega));have Y : Hid (Fr (· = rb) w (w6.setCell ⟨rb, 2, none⟩ (.int .i64 p))) := hid (N.out.trans (z0l 2 _));have z2 := l.out.thaw 2;have c2 := l.out.c2;clear L M N l
   generalize z0c s.data.toList f h p [] T = r at *
   obtain ⟨kids, V⟩ := r;simp only at X HK
   go_wp2_with fail
   generalize w6.setCell ⟨rb, 2, none⟩ (.int .i64 p) = w7 at *
   refine O.out.mono ?_;rintro e w8 ⟨a, m, n, rfl, z, d, q⟩;simp only at z d;have ax := hid (z30 X.out x.out);have Z := hid z;have HZ : Hid (w.heap.size < w7.heap.size) := hid y.out.lt;have aa := hid (y.out.fr q (by omega));have af := hid (Y.out.trans q);have t : Hid (RdAt (w8.setCell ⟨rb, 2, none⟩ (.int .i64 o)) rb s o V) := hid (d.set2 o);have u : Hid (Calls Tryz.prog 247 #[.pointer (some ⟨rb, 0, none⟩), .string ⟨#[125]⟩] (w8.setCell ⟨rb, 2, none⟩ (.int .i64 o)) fun e w' => e = .returned (.tuple #[]) /\ RdAt w' rb s o (wordF s.data.toList [125] V) /\ Fr (· = rb) (w8.setCell ⟨rb, 2, none⟩ (.int .i64 o)) w') := hid (z13 rb s ⟨#[125]⟩ o V _ hs (by decide) ax.out t.out);clear z2 c2;have z2 := d.thaw 2;have c2 := d.c2;obtain ⟨ln, ay⟩ := nmd (kids.length);rw [<- ay.out] at Z ⊢;have aY : w7.heap.size <= w8.heap.size := q.size;clear z d q O y Y t
   go_wp2_with fail
   refine u.out.mono ?_;rintro e w9 ⟨rfl, ag, ah⟩;have HX := hid ((z0l (w := w8) (rb := rb) 2 (.int .i64 o)).trans ah);have t := hid ag;have g := hid (aa.out.fr HX.out (by omega));have az := hid (af.out.trans HX.out);clear ag ah u aa af z2 c2;have q0 := g.out.c0;have q1 := g.out.c1;have y0 := g.out.thaw 0;have y1 := g.out.thaw 1;go_wp2;have Q7 := g.out.put2 (.string (ba ky)) (.slice a ln m);have B7 := But.put2 w.heap.size w9 (.string (ba ky)) (.slice a ln m)
   generalize (w9.setCell ⟨w.heap.size, 0, none⟩ (.string (ba ky))).setCell ⟨w.heap.size, 1, none⟩ (.slice a ln m) = wa at *
   have e0 := Q7.c0;have e1 := Q7.c1;have hz := HZ.out
   exact bodyPost_ret (v := .agg #[.string (ba ky), .slice a ln m]) (by simp [results, Tryz.results284, go_sem, e0, e1]) rfl (by
    rw [HK.out]
    exact ⟨_, n, rfl, Z.out.fsh (fun b hb ai => (B7.block b (by omega)).trans (HX.out.block b ai (by omega))) (by omega) (by rw [B7.size]; exact HX.out.size), t.out.but B7 (by omega), But.fr az.out B7 (Nat.le_refl _)⟩)
 | false =>
  rw [hb1] at C;obtain ⟨R, j⟩ : ∃ R : St, Hid (R = U) := ⟨_, hid rfl⟩;have HK := hid (z7n (o := o) (pf := fun S => z0c s.data.toList f h p [] S) (R := R) HA.out (by rw [HU.out, deep_no1 hb1, j.out]));have D : Hid (Wf s.data.toList R) := hid (by rw [j.out]; exact aK.out)
  have aU : S.1 <= R.1 := by rw [j.out]; omega
  clear hb1
  go_wp2_with fail
  refine C.out.mono ?_;rintro e w5 ⟨rfl, c⟩;have B : Hid (RdAt w5 rb s o R) := hid (by rw [j.out]; exact aj.out.same c);have E := hid (c.row aq.out);have F := hid (ar.out.same c);have G := hid (au.out.trans (Fr.of_same c));clear c C aj aq ar au;have i : Hid (Calls Tryz.prog 247 #[.pointer (some ⟨rb, 0, none⟩), .string ⟨#[123]⟩] w5 fun e w' => e = .returned (.tuple #[]) /\ RdAt w' rb s o (wordF s.data.toList [123] R) /\ Fr (· = rb) w5 w') := hid (z13 rb s ⟨#[123]⟩ o R w5 hs (by decide) D.out B.out);have H := hid (z06 s.data.toList [123] R);have I : Hid ((wordF s.data.toList [123] R).2 = 0 -> R.1 + 1 <= (wordF s.data.toList [123] R).1) := hid z4d;obtain ⟨T, HT⟩ : ∃ T, Hid (wordF s.data.toList [123] R = T) := ⟨_, hid rfl⟩;rw [HT.out] at i H I HK;clear B
  go_wp2_with fail
  refine i.out.mono ?_;rintro e w6 ⟨rfl, J, k⟩;have l := hid J;have L := hid (E.out.fr k (by omega));have M := hid (F.out.fr k);have N := hid (G.out.trans k);have x := hid (z30 H.out D.out);have aF := z3j x.out;clear J k i E F G;have O := hid (HP h p rb s T (w6.setCell ⟨rb, 2, none⟩ (.int .i64 p)) hs aA.out x.out (fun e => by have := I.out e; omega) (l.out.set2 p) (M.out.fr (z0l 2 _)));have X := hid (z2k s.data.toList f h p [] T);have y : Hid (Row (w6.setCell ⟨rb, 2, none⟩ (.int .i64 p)) w.heap.size 284 [.string ⟨#[]⟩, .slice none 0 0]) := hid (L.out.fr (z0l 2 _) (by omega));have Y : Hid (Fr (· = rb) w (w6.setCell ⟨rb, 2, none⟩ (.int .i64 p))) := hid (N.out.trans (z0l 2 _));have z2 := l.out.thaw 2;have c2 := l.out.c2;clear L M N l
  generalize z0c s.data.toList f h p [] T = r at *
  obtain ⟨kids, V⟩ := r;simp only at X HK
  go_wp2_with fail
  generalize w6.setCell ⟨rb, 2, none⟩ (.int .i64 p) = w7 at *
  refine O.out.mono ?_;rintro e w8 ⟨a, m, n, rfl, z, d, q⟩;simp only at z d;have ax := hid (z30 X.out x.out);have Z := hid z;have HZ : Hid (w.heap.size < w7.heap.size) := hid y.out.lt;have aa := hid (y.out.fr q (by omega));have af := hid (Y.out.trans q);have t : Hid (RdAt (w8.setCell ⟨rb, 2, none⟩ (.int .i64 o)) rb s o V) := hid (d.set2 o);have u : Hid (Calls Tryz.prog 247 #[.pointer (some ⟨rb, 0, none⟩), .string ⟨#[125]⟩] (w8.setCell ⟨rb, 2, none⟩ (.int .i64 o)) fun e w' => e = .returned (.tuple #[]) /\ RdAt w' rb s o (wordF s.data.toList [125] V) /\ Fr (· = rb) (w8.setCell ⟨rb, 2, none⟩ (.int .i64 o)) w') := hid (z13 rb s ⟨#[125]⟩ o V _ hs (by decide) ax.out t.out);clear z2 c2;have z2 := d.thaw 2;have c2 := d.c2;obtain ⟨ln, ay⟩ := nmd (kids.length);rw [<- ay.out] at Z ⊢;have aY : w7.heap.size <= w8.heap.size := q.size;clear z d q O y Y t
  go_wp2_with fail
  refine u.out.mono ?_;rintro e w9 ⟨rfl, ag, ah⟩;have HX := hid ((z0l (w := w8) (rb := rb) 2 (.int .i64 o)).trans ah);have t := hid ag;have g := hid (aa.out.fr HX.out (by omega));have az := hid (af.out.trans HX.out);clear ag ah u aa af z2 c2;have q0 := g.out.c0;have q1 := g.out.c1;have y0 := g.out.thaw 0;have y1 := g.out.thaw 1;go_wp2;have Q7 := g.out.put2 (.string (ba ky)) (.slice a ln m);have B7 := But.put2 w.heap.size w9 (.string (ba ky)) (.slice a ln m)
  generalize (w9.setCell ⟨w.heap.size, 0, none⟩ (.string (ba ky))).setCell ⟨w.heap.size, 1, none⟩ (.slice a ln m) = wa at *
  have e0 := Q7.c0;have e1 := Q7.c1;have hz := HZ.out
  exact bodyPost_ret (v := .agg #[.string (ba ky), .slice a ln m]) (by simp [results, Tryz.results284, go_sem, e0, e1]) rfl (by
   rw [HK.out]
   exact ⟨_, n, rfl, Z.out.fsh (fun b hb ai => (B7.block b (by omega)).trans (HX.out.block b ai (by omega))) (by omega) (by rw [B7.size]; exact HX.out.size), t.out.but B7 (by omega), But.fr az.out B7 (Nat.le_refl _)⟩)
end Go.Proofs.YtdkkkeoicekdgaaGreatDoor

end
