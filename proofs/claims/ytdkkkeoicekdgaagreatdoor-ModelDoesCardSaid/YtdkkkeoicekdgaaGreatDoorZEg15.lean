/- The reader: a part, cases, parts. -/
import Derived.Test.YtdkkkeoicekdgaaGreatDoorZEg11
import Derived.Test.YtdkkkeoicekdgaaGreatDoorZERh

section

namespace Go.Proofs.YtdkkkeoicekdgaaGreatDoor
set_option maxHeartbeats 3200000
set_option maxRecDepth 100000
open Go.Lib (hid)
open Go.RowKit
theorem Sl.form {α : Type} {k : Nat} {C : α -> List Value -> Prop} {w : World} {S : Nat -> Prop} {v : Value} {xs : List α} (h : Sl k C w S v xs) : ∃ a n cap, v = .slice a n cap /\ n = xs.length := by
 obtain ⟨a, cap, hv, -⟩ := h;exact ⟨a, _, cap, hv, rfl⟩
theorem zgl {l : List UInt8} {cf : Bool -> List UInt8 × St -> List Cs × St} {h : Bool} {S : St} (h1 : nextF l [123] S = true) : partG l cf h S = holeG l cf h S := by unfold partG; rw [if_pos h1]
theorem zgm {l : List UInt8} {cf : Bool -> List UInt8 × St -> List Cs × St} {h : Bool} {S : St} (h1 : nextF l [123] S = false) (h2 : nextF l [35] S = true) : partG l cf h S = (.mk 3 (ba []) (ba []) [], wordF l [35] (if h then S else failF l S)) := by
 unfold partG; rw [if_neg (by rw [h1]; simp), if_pos h2]
theorem zgk {l : List UInt8} {cf : Bool -> List UInt8 × St -> List Cs × St} {h : Bool} {S : St} (h1 : nextF l [123] S = false) (h2 : nextF l [35] S = false) : partG l cf h S = (.mk 1 (ba (textL l l.length [] S).1) (ba []) [], (textL l l.length [] S).2) := by
 unfold partG; rw [if_neg (by rw [h1]; simp), if_neg (by rw [h2]; simp)]
theorem z5g (f : Nat) (HC : z7u f) (h : Bool) (o rb : Nat) (s : BA) (S : St) (w : World) (hs : s.size <= 2000) (ho : o + f <= 4000) (hS : Wf s.data.toList S) (hf : s.size - S.1 < f + 1) (hR : RdAt w rb s o S) (hE : Env w rb) :
  Calls Tryz.prog 220 #[.pointer (some ⟨rb, 0, none⟩), .bool h] w (z9r rb s o w (partG s.data.toList (fun h b => z09 s.data.toList f h o [] b) h S)) := by
 have Y := hR.lt;have z : Hid (Row (w.alloc (.cells #[.int .i64 0, .string ⟨#[]⟩, .string ⟨#[]⟩, .slice none 0 0] 263)) w.heap.size 263 [.int .i64 0, .string ⟨#[]⟩, .string ⟨#[]⟩, .slice none 0 0]) := hid (z02 w #[.int .i64 0, .string ⟨#[]⟩, .string ⟨#[]⟩, .slice none 0 0] 263);have y : Hid (RdAt (w.alloc (.cells #[.int .i64 0, .string ⟨#[]⟩, .string ⟨#[]⟩, .slice none 0 0] 263)) rb s o S) := hid (hR.alloc _);have G : Hid (Env (w.alloc (.cells #[.int .i64 0, .string ⟨#[]⟩, .string ⟨#[]⟩, .slice none 0 0] 263)) rb) := hid (hE.below (z03 _ _));have A : Hid (Fr (· = rb) w (w.alloc (.cells #[.int .i64 0, .string ⟨#[]⟩, .string ⟨#[]⟩, .slice none 0 0] 263))) := hid ((Fr.refl _ _).alloc _);have HS := hid hS;have U := hid hf;have x : Hid (Calls Tryz.prog 219 #[.pointer (some ⟨rb, 0, none⟩), .string ⟨#[123]⟩] (w.alloc (.cells #[.int .i64 0, .string ⟨#[]⟩, .string ⟨#[]⟩, .slice none 0 0] 263)) fun e w' => e = .returned (.bool (nextF s.data.toList [123] S)) /\ Same (w.alloc (.cells #[.int .i64 0, .string ⟨#[]⟩, .string ⟨#[]⟩, .slice none 0 0] 263)) w') := hid (z2i rb s ⟨#[123]⟩ o S _ hs hS (by decide) y.out);clear hR hE hS hf
 cases hb1 : nextF s.data.toList [123] S with
 | true =>
  rw [hb1] at x;have HK := hid (zgl (cf := fun h b => z09 s.data.toList f h o [] b) (h := h) hb1);have O := hid hb1;clear hb1
  go_enter Tryz.func220, Tryz.ntmps220
  go_wp2_with fail
  generalize w.alloc (.cells #[.int .i64 0, .string ⟨#[]⟩, .string ⟨#[]⟩, .slice none 0 0] 263) = w1 at *
  refine x.out.mono ?_;rintro e w2 ⟨rfl, d⟩;have l := hid (d.row z.out);have p := hid (A.out.trans (Fr.of_same d));have HH := hid (hole_any f HC h o rb s S w2 hs ho HS.out O.out U.out (y.out.same d) (G.out.same d));clear d x z y G A O
  generalize holeG s.data.toList (fun h b => z09 s.data.toList f h o [] b) h S = r at *
  obtain ⟨⟨k, t, nm, cs⟩, V⟩ := r
  go_wp2_with fail
  refine HH.out.mono ?_;rintro e w3 ⟨v, n, he, L, F, D⟩;simp only [Pt.k, Pt.t, Pt.n, Pt.cs] at he L F;obtain ⟨a, ln, M, rfl, -⟩ := L.form;subst he;have j := hid F;have X := hid L;have g := hid (l.out.fr D (by omega));have m := hid (p.out.trans D);have HZ : Hid (w.heap.size < w2.heap.size) := hid l.out.lt;clear F L D HH l p;have q0 := g.out.c0;have q1 := g.out.c1;have q2 := g.out.c2;have q3 := g.out.c3;have y0 := g.out.thaw 0;have y1 := g.out.thaw 1;have y2 := g.out.thaw 2;have y3 := g.out.thaw 3;go_wp2;have Q7 := g.out.put4 (.int .i64 k) (.string t) (.string nm) (.slice a ln M);have B7 := But.put4 w.heap.size w3 (.int .i64 k) (.string t) (.string nm) (.slice a ln M)
  generalize (((w3.setCell ⟨w.heap.size, 0, none⟩ (.int .i64 k)).setCell ⟨w.heap.size, 1, none⟩ (.string t)).setCell ⟨w.heap.size, 2, none⟩ (.string nm)).setCell ⟨w.heap.size, 3, none⟩ (.slice a ln M) = w4 at *
  have e0 := Q7.c0;have e1 := Q7.c1;have e2 := Q7.c2;have e3 := Q7.c3;have hz := HZ.out
  exact bodyPost_ret (v := .agg #[.int .i64 k, .string t, .string nm, .slice a ln M]) (by simp [results, Tryz.results220, go_sem, e0, e1, e2, e3]) rfl (by
   rw [HK.out]
   exact ⟨_, n, rfl, X.out.fsh (fun b hb _ => B7.block b (by omega)) (by omega) (by rw [B7.size]; exact Nat.le_refl _), j.out.but B7 (by omega), But.fr m.out B7 (Nat.le_refl _)⟩)
 | false =>
  rw [hb1] at x
  cases hb2 : nextF s.data.toList [35] S with
  | true =>
   have HK := hid (zgm (cf := fun h b => z09 s.data.toList f h o [] b) (h := h) hb1 hb2);have E : Hid (∀ W, RdAt W rb s o S -> Calls Tryz.prog 219 #[.pointer (some ⟨rb, 0, none⟩), .string ⟨#[35]⟩] W fun e w' => e = .returned (.bool true) /\ Same W w') := hid (fun W hW => by rw [<- hb2]; exact z2i rb s ⟨#[35]⟩ o S W hs HS.out (by decide) hW);clear hb1 hb2
   cases h with
   | true =>
    go_enter Tryz.func220, Tryz.ntmps220
    go_wp2_with fail
    generalize w.alloc (.cells #[.int .i64 0, .string ⟨#[]⟩, .string ⟨#[]⟩, .slice none 0 0] 263) = w1 at *
    refine x.out.mono ?_;rintro e w2 ⟨rfl, d⟩;have l := hid (d.row z.out);have p := hid (A.out.trans (Fr.of_same d));have q := hid (y.out.same d);have B := hid (E.out w2 q.out);clear d x z y G A E
    go_wp2_with fail
    refine B.out.mono ?_;rintro e w3 ⟨rfl, i⟩;have g := hid (i.row l.out);have m := hid (p.out.trans (Fr.of_same i));have j := hid (q.out.same i);clear i B l q p;have H : Hid (Calls Tryz.prog 247 #[.pointer (some ⟨rb, 0, none⟩), .string ⟨#[35]⟩] w3 fun e w' => e = .returned (.tuple #[]) /\ RdAt w' rb s o (wordF s.data.toList [35] S) /\ Fr (· = rb) w3 w') := hid (z13 rb s ⟨#[35]⟩ o S w3 hs (by decide) HS.out j.out)
    go_wp2_with fail
    refine H.out.mono ?_;rintro e w4 ⟨rfl, C, u⟩;have I := hid C;have c := hid (g.out.fr u (by omega));have J := hid (m.out.trans u);clear C u H g m j;have q0 := c.out.c0;have q1 := c.out.c1;have q2 := c.out.c2;have q3 := c.out.c3;have y0 := c.out.thaw 0;have y1 := c.out.thaw 1;have y2 := c.out.thaw 2;have y3 := c.out.thaw 3;go_wp2;have Q7 := c.out.put4 (.int .i64 3) (.string ⟨#[]⟩) (.string ⟨#[]⟩) (.slice none 0 0);have B7 := But.put4 w.heap.size w4 (.int .i64 3) (.string ⟨#[]⟩) (.string ⟨#[]⟩) (.slice none 0 0)
    generalize (((w4.setCell ⟨w.heap.size, 0, none⟩ (.int .i64 3)).setCell ⟨w.heap.size, 1, none⟩ (.string ⟨#[]⟩)).setCell ⟨w.heap.size, 2, none⟩ (.string ⟨#[]⟩)).setCell ⟨w.heap.size, 3, none⟩ (.slice none 0 0) = w5 at *
    have e0 := Q7.c0;have e1 := Q7.c1;have e2 := Q7.c2;have e3 := Q7.c3
    skip
    exact bodyPost_ret (v := .agg #[.int .i64 3, .string ⟨#[]⟩, .string ⟨#[]⟩, .slice none 0 0]) (by simp [results, Tryz.results220, go_sem, e0, e1, e2, e3]) rfl (by
     rw [HK.out]
     exact ⟨_, 0, rfl, Sl.nil _ _ _ _, I.out.but B7 (by omega), But.fr J.out B7 (Nat.le_refl _)⟩)
   | false =>
    go_enter Tryz.func220, Tryz.ntmps220
    go_wp2_with fail
    generalize w.alloc (.cells #[.int .i64 0, .string ⟨#[]⟩, .string ⟨#[]⟩, .slice none 0 0] 263) = w1 at *
    refine x.out.mono ?_;rintro e w2 ⟨rfl, d⟩;have l := hid (d.row z.out);have p := hid (A.out.trans (Fr.of_same d));have q := hid (y.out.same d);have B := hid (E.out w2 q.out);clear d x z y G A E
    go_wp2_with fail
    refine B.out.mono ?_;rintro e w3 ⟨rfl, i⟩;have g := hid (i.row l.out);have m := hid (p.out.trans (Fr.of_same i));have j := hid (q.out.same i);clear i B l q p;have R := hid (z5k rb s o S w3 hs HS.out j.out);clear j
    go_wp2_with fail
    refine R.out.mono ?_;rintro e N ⟨rfl, F, D⟩;have j := hid F;have g := hid (g.out.fr D (by omega));have m := hid (m.out.trans D);have HS := hid (z30 (z1u s.data.toList S) HS.out);clear F D R;have H : Hid (Calls Tryz.prog 247 #[.pointer (some ⟨rb, 0, none⟩), .string ⟨#[35]⟩] N fun e w' => e = .returned (.tuple #[]) /\ RdAt w' rb s o (wordF s.data.toList [35] (failF s.data.toList S)) /\ Fr (· = rb) N w') := hid (z13 rb s ⟨#[35]⟩ o (failF s.data.toList S) N hs (by decide) HS.out j.out)
    go_wp2_with fail
    refine H.out.mono ?_;rintro e w4 ⟨rfl, C, u⟩;have I := hid C;have c := hid (g.out.fr u (by omega));have J := hid (m.out.trans u);clear C u H g m j;have q0 := c.out.c0;have q1 := c.out.c1;have q2 := c.out.c2;have q3 := c.out.c3;have y0 := c.out.thaw 0;have y1 := c.out.thaw 1;have y2 := c.out.thaw 2;have y3 := c.out.thaw 3;go_wp2;have Q7 := c.out.put4 (.int .i64 3) (.string ⟨#[]⟩) (.string ⟨#[]⟩) (.slice none 0 0);have B7 := But.put4 w.heap.size w4 (.int .i64 3) (.string ⟨#[]⟩) (.string ⟨#[]⟩) (.slice none 0 0)
    generalize (((w4.setCell ⟨w.heap.size, 0, none⟩ (.int .i64 3)).setCell ⟨w.heap.size, 1, none⟩ (.string ⟨#[]⟩)).setCell ⟨w.heap.size, 2, none⟩ (.string ⟨#[]⟩)).setCell ⟨w.heap.size, 3, none⟩ (.slice none 0 0) = w5 at *
    have e0 := Q7.c0;have e1 := Q7.c1;have e2 := Q7.c2;have e3 := Q7.c3
    skip
    exact bodyPost_ret (v := .agg #[.int .i64 3, .string ⟨#[]⟩, .string ⟨#[]⟩, .slice none 0 0]) (by simp [results, Tryz.results220, go_sem, e0, e1, e2, e3]) rfl (by
     rw [HK.out]
     exact ⟨_, 0, rfl, Sl.nil _ _ _ _, I.out.but B7 (by omega), But.fr J.out B7 (Nat.le_refl _)⟩)
  | false =>
   have HK := hid (zgk (cf := fun h b => z09 s.data.toList f h o [] b) (h := h) hb1 hb2);have E : Hid (∀ W, RdAt W rb s o S -> Calls Tryz.prog 219 #[.pointer (some ⟨rb, 0, none⟩), .string ⟨#[35]⟩] W fun e w' => e = .returned (.bool false) /\ Same W w') := hid (fun W hW => by rw [<- hb2]; exact z2i rb s ⟨#[35]⟩ o S W hs HS.out (by decide) hW);clear hb1 hb2
   go_enter Tryz.func220, Tryz.ntmps220
   go_wp2_with fail
   generalize w.alloc (.cells #[.int .i64 0, .string ⟨#[]⟩, .string ⟨#[]⟩, .slice none 0 0] 263) = w1 at *
   refine x.out.mono ?_;rintro e w2 ⟨rfl, d⟩;have l := hid (d.row z.out);have p := hid (A.out.trans (Fr.of_same d));have q := hid (y.out.same d);have B := hid (E.out w2 q.out);clear d x z y G A E
   go_wp2_with fail
   refine B.out.mono ?_;rintro e w3 ⟨rfl, i⟩;have g := hid (i.row l.out);have m := hid (p.out.trans (Fr.of_same i));have j := hid (q.out.same i);clear i B l q p;have T := hid (text_any rb s o S w3 hs HS.out j.out);clear j
   generalize textL s.data.toList s.data.toList.length [] S = r at *
   obtain ⟨tx, V⟩ := r
   go_wp2_with fail
   refine T.out.mono ?_;rintro e w4 ⟨rfl, C, u⟩;have I := hid C;have c := hid (g.out.fr u (by omega));have J := hid (m.out.trans u);clear C u T g m;have q0 := c.out.c0;have q1 := c.out.c1;have q2 := c.out.c2;have q3 := c.out.c3;have y0 := c.out.thaw 0;have y1 := c.out.thaw 1;have y2 := c.out.thaw 2;have y3 := c.out.thaw 3;go_wp2;have Q7 := c.out.put4 (.int .i64 1) (.string (ba tx)) (.string ⟨#[]⟩) (.slice none 0 0);have B7 := But.put4 w.heap.size w4 (.int .i64 1) (.string (ba tx)) (.string ⟨#[]⟩) (.slice none 0 0)
   generalize (((w4.setCell ⟨w.heap.size, 0, none⟩ (.int .i64 1)).setCell ⟨w.heap.size, 1, none⟩ (.string (ba tx))).setCell ⟨w.heap.size, 2, none⟩ (.string ⟨#[]⟩)).setCell ⟨w.heap.size, 3, none⟩ (.slice none 0 0) = w5 at *
   have e0 := Q7.c0;have e1 := Q7.c1;have e2 := Q7.c2;have e3 := Q7.c3
   skip
   exact bodyPost_ret (v := .agg #[.int .i64 1, .string (ba tx), .string ⟨#[]⟩, .slice none 0 0]) (by simp [results, Tryz.results220, go_sem, e0, e1, e2, e3]) rfl (by
    rw [HK.out]
    exact ⟨_, 0, rfl, Sl.nil _ _ _ _, I.out.but B7 (by omega), But.fr J.out B7 (Nat.le_refl _)⟩)

set_option maxHeartbeats 3200000
set_option maxRecDepth 100000
def pl2 (m rb : Nat) (w : World) : Nat := match w.cell? ⟨rb, 1, none⟩, w.cell? ⟨rb, 3, none⟩ with
 | some (.int _ a), some (.int _ e) => 2 * (m - a.toNat) + (if e = 0 then 1 else 0)
 | _, _ => 0
theorem zdj {m rb : Nat} {w : World} {s : BA} {o : Nat} {S : St} (h : RdAt w rb s o S) : pl2 m rb w = 2 * (m - S.1) + (if S.2 = 0 then 1 else 0) := by
 unfold pl2; rw [h.c1, h.c3]
 by_cases h0 : S.2 = 0
 ·rw [h0]; simp
 ·rw [if_neg h0]; simp [h0]
theorem zfq {l : List UInt8} {f : Nat} {h : Bool} {o : Nat} {acc : List Cs} {b : List UInt8 × St} (hb : b.1 ≠ [32]) : z09 l f h o acc b = (acc, b.2) := by
 cases f with
 | zero => rw [z09]
 | succ f => rw [z09, if_neg hb]
theorem cases_go {l : List UInt8} {f : Nat} {h : Bool} {o : Nat} {acc : List Cs} {b : List UInt8 × St} (hb : b.1 = [32]) :
  z09 l (f + 1) h o acc b = z09 l f h o (acc ++ [(z16 l (fun S => z0c l f h (o + 1) [] S) o b.2).1]) (oneF l [32, 125] (z16 l (fun S => z0c l f h (o + 1) [] S) o b.2).2) := by
 rw [z09, if_pos hb]
theorem z88 {l : List UInt8} {f : Nat} {h : Bool} {o : Nat} {acc : List Pt} {S : St} (hb : ¬ (S.2 = 0 /\ S.1 < l.length /\ nextF l [125] S = false)) : z0c l f h o acc S = (acc, S) := by
 cases f with
 | zero => rw [z0c]
 | succ f => rw [z0c, if_neg hb]
theorem parts_go {l : List UInt8} {f : Nat} {h : Bool} {o : Nat} {acc : List Pt} {S : St} (hb : S.2 = 0 /\ S.1 < l.length /\ nextF l [125] S = false) :
  z0c l (f + 1) h o acc S = z0c l f h o (acc ++ [(partG l (fun h b => z09 l f h o [] b) h S).1]) (partG l (fun h b => z09 l f h o [] b) h S).2 := by
 rw [z0c, if_pos hb]
theorem rest_eq {s : BA} {S : St} (hS : Wf s.data.toList S) (h : ¬ (S.2 = 0 /\ S.1 < s.size)) : restF s S = ⟨#[]⟩ := by
 by_cases h0 : S.2 = 0
 ·have h1 : (restF s S).size = 0 := by rw [z5c, if_pos h0]; have := z3j hS; omega
  apply ByteArray.ext
  exact Array.eq_empty_of_size_eq_zero h1
 ·exact z1w h0
theorem zgc {s : BA} {S : St} (h : S.2 = 0 /\ S.1 < s.size) : (restF s S).toList.isEmpty = false := by
 rw [ByteArray.toList_eq, List.isEmpty_eq_false_iff];intro e
 have : (restF s S).size = 0 := by rw [<- z08, e]; rfl
 rw [z5c, if_pos h.1] at this; omega
theorem Env.frX {X : Nat -> Prop} {w w' : World} {rb : Nat} (h : Env w rb) (hf : Fr X w w') (hX : ∀ b, X b -> rb <= b) : Env w' rb := by
 obtain ⟨W, he, hb, a⟩ := h;exact ⟨W, he, ⟨hf.os.trans hb.os, hf.tape.trans hb.tape, hf.output.trans hb.output, Nat.le_trans hb.size hf.size, fun k hk => (hf.block k (Nat.lt_of_lt_of_le hk hb.size) (fun hx => by have := hX k hx; omega)).trans (hb.block k hk)⟩, a⟩
theorem Gw.frC {e n : Nat} {B rb : Nat} {w w' : World} {v : Value} {xs : List Cs} {vs : List Value} (h : Gw e 2 (CCn n) B w v xs vs) (hf : Fr (· = rb) w w') (hrb : rb < B) : Gw e 2 (CCn n) B w' v xs vs := h.fr (kpC n) hf (fun b hb _ e => by omega)
theorem Gw.frP {e n : Nat} {B rb : Nat} {w w' : World} {v : Value} {xs : List Pt} {vs : List Value} (h : Gw e 4 (CPn n) B w v xs vs) (hf : Fr (· = rb) w w') (hrb : rb < B) : Gw e 4 (CPn n) B w' v xs vs := h.fr (kpP n) hf (fun b hb _ e => by omega)
theorem Gw.ownlt {α : Type} {e k : Nat} {C : World -> (Nat -> Prop) -> α -> List Value -> Prop} {B : Nat} {w : World} {v : Value} {xs : List α} {vs : List Value} (h : Gw e k C B w v xs vs) : ∀ b, v.ownBlock = some b -> b < w.heap.size := fun b hb => (h.own.lt b hb).2
theorem ziw (f : Nat) (HP : ∀ g, g < f -> z6s g) : z7u f := by
 intro h o rb s S w hs ho hS hf hR hE;obtain ⟨i0, hi, aN, aO, aP⟩ := info_parts info44;have ah := hR.lt
 have aQ : Hid (∀ g, g + 1 <= f -> ∀ (S : St) (W : World), Wf s.data.toList S -> s.size - S.1 < g + 1 -> RdAt W rb s o S -> Env W rb -> Calls Tryz.prog 284 #[.pointer (some ⟨rb, 0, none⟩), .bool h] W (zf1 rb s o W (z16 s.data.toList (fun S => z0c s.data.toList g h (o + 1) [] S) o S))) :=
  hid (fun g hg S W h1 h2 h3 h4 => zfs g (HP g (by omega)) h o rb s S W hs (by omega) h1 h2 h3 h4)
 have H : Hid (Calls Tryz.prog 270 #[.pointer (some ⟨rb, 0, none⟩), .string ⟨#[32]⟩] w fun e w' => e = .returned (.string (ba (oneF s.data.toList [32] S).1)) /\ RdAt w' rb s o (oneF s.data.toList [32] S).2 /\ Fr (· = rb) w w') := hid (z94 rb s ⟨#[32]⟩ o S w hs hS hR);have I := hid (z30 (z1f s.data.toList [32] S) hS);have J : Hid ((oneF s.data.toList [32] S).1 = [32] -> (oneF s.data.toList [32] S).2.2 = 0) := hid zdn;have L := hid hf;have ai := hid hE
 generalize oneF s.data.toList [32] S = b0 at *
 clear hR hE hf hS HP;obtain ⟨q0, S0⟩ := b0;simp only at H I J L
 go_enter Tryz.func269, Tryz.ntmps269
 go_wp2_with fail
 refine H.out.mono ?_;rintro e w1 ⟨rfl, aj, M⟩;have aq := hid aj;have ar := hid M;have au := hid (ai.out.fr M);have aw : Hid (Gw 284 2 (CCn 0) w.heap.size w1 (.slice none 0 0) [] []) := hid (Gw.nil _ _ _ _ _);clear aj M H ai;go_wp2
 go_loopw [5, 6] (fun v q wr => ∃ (xs : List Cs) (vs : List Value) (a : Option Addr) (u k g : Nat) (bs : List UInt8) (T : St), v = .slice a xs.length u /\ q = .string (ba bs) /\ g <= f /\ Hid (Gw 284 2 (CCn k) w.heap.size wr (.slice a xs.length u) xs vs) /\ Hid (RdAt wr rb s o T) /\ Hid (Env wr rb) /\ Hid (Fr (· = rb) w wr) /\ Hid (Wf s.data.toList T) /\ Hid (bs = [32] -> T.2 = 0) /\ Hid (T.2 = 0 -> s.size - T.1 < g) /\ Hid (xs.length <= T.1 + (if T.2 = 0 then 0 else 1)) /\ Hid (z09 s.data.toList f h o [] (q0, S0) = z09 s.data.toList g h o xs (bs, T))) (fun _ _ wr => pl2 s.size rb wr)
 case atStart => exact ⟨[], [], none, 0, 0, f, q0, S0, rfl, rfl, Nat.le_refl _, aw, aq, au, ar, I, J, L, hid (Nat.zero_le _), hid rfl⟩
 case round =>
  obtain ⟨xs, vs, a, u, k, g, bs, T, rfl, rfl, aR, x, y, ax, N, O, aS, R, D, HQ⟩ := hrel;clear aw aq au ar I J L;have aT : w.heap.size <= wr.heap.size := N.out.size;have HM := hid (zdj (m := s.size) y.out);obtain ⟨n, HL⟩ := nmd (xs.length);rw [<- HL.out]
  by_cases hb : bs = [32]
  rotate_left
  ·have HE := hid (HQ.out.trans (zfq (f := g) (h := h) (o := o) (acc := xs) (b := (bs, T)) hb))
   have hB : (bs == [32]) = false := beq_eq_false_iff_ne.2 hb;clear hb;go_wp2;go_ret;rw [HE.out];exact ⟨a, u, k, by rw [HL.out]; rfl, x.out.done (kpC k), y.out, N.out⟩
  ·have h0 := aS.out hb
   obtain ⟨g', rfl⟩ : ∃ g', g = g' + 1 := ⟨g - 1, by have := R.out h0; omega⟩;have HE := hid (HQ.out.trans (cases_go (f := g') (h := h) (o := o) (acc := xs) (b := (bs, T)) hb));have hB : (bs == [32]) = true := beq_iff_eq.2 hb;have HC := hid (aQ.out g' aR T wr O.out (R.out h0) y.out ax.out);have d := hid h0;have U := hid (zaz (l := s.data.toList) (pf := fun S => z0c s.data.toList g' h (o + 1) [] S) (fun S => z2k _ _ _ _ _ _) o T);simp only at HE;clear hb h0 HQ y
   generalize z16 s.data.toList (fun S => z0c s.data.toList g' h (o + 1) [] S) o T = r at *
   obtain ⟨⟨key, kids⟩, V⟩ := r;simp only at HE U;have ay := hid (z30 U.out O.out)
   go_wp2_with fail
   refine HC.out.mono ?_;rintro e w2 ⟨v2, n2, he, A, Y, j⟩;simp only [Cs.key, Cs.kids] at he A Y;obtain ⟨a2, l2, p2, rfl, -⟩ := A.form;subst he;obtain ⟨K, HK⟩ : ∃ K, Hid (k <= K /\ n2 <= K) := ⟨max k n2, hid ⟨Nat.le_max_left _ _, Nat.le_max_right _ _⟩⟩;have az : Hid (SlP w2 (Fsh wr.heap.size w2) K (.slice a2 l2 p2) kids) := hid (A.le HK.out.2);have Z := hid Y;have aA := hid j;have i := hid ((x.out.frC j ah).leC HK.out.1);have aa := hid x.out.ownlt;have aB := hid (ax.out.fr j);rw [<- HL.out] at i aa;have c := i.out.own;rw [<- HL.out] at c;have p := hid c;have aX : wr.heap.size <= w2.heap.size := j.size
   have aZ : n <= 2001 := by have h1 := D.out; have h2 := z3j O.out; rw [d.out, if_pos rfl, <- HL.out] at h1; omega
   clear A Y j HC c
   go_wp2_with (at_builtin; refine wpList_append_lies _ rfl _ _ 261 rfl w.heap.size 284 i0 _ 2 40 Tryz.underlying261 hi aN aO aP rfl (by decide) _ _ _ rfl (p.out.alloc _) _ 1 1 [.string key, .slice a2 l2 p2] rfl rfl (z1v _ #[.string key, .slice a2 l2 p2] _ rfl) (by simp [Value.oneCell']) (by decide) (by unfold maxLen; omega) (by omega) (by simp; omega) (w2.heap.size + 1) (by simp) ?_; intro g5 c5 w5 hown5 hgrow5 hg5 _; have aC := hid hown5; have t := hid hgrow5; have E := hid hg5; clear hown5 hgrow5 hg5)
   have aD := Z.out.lt
   have F : Hid (Gw 284 2 (CCn K) w.heap.size w5 (.slice (some ⟨g5, 0, none⟩) (n + 1) c5) (xs ++ [.mk key kids]) (vs ++ [.string key, .slice a2 l2 p2])) := hid
    (i.out.push (kpC K) HL.out (CC.mk az.out) aT aa.out rfl t.out aC.out (by rcases E.out with z | z; exact .inl z; right; rw [z]; omega))
   have aE : Hid (RdAt w5 rb s o V) := hid (Z.out.keep ((t.out.block rb (by rw [World.size_alloc]; omega) (fun e => by have := (p.out.lt rb e.symm).1; omega)).trans (Below.heap_alloc _ _ _ aD)));have aF : Hid (Fr (· = rb) w w5) := hid (((N.out.trans aA.out).alloc _).grown t.out (fun g hg => .inl (p.out.lt g hg).1));have aG : Hid (Env w5 rb) := hid (aB.out.frX (X := fun b => rb <= b) (((Fr.refl _ w2).alloc _).grown t.out (fun g hg => .inr (by have := (p.out.lt g hg).1; omega))) (fun _ h => h));have af : Hid (Calls Tryz.prog 270 #[.pointer (some ⟨rb, 0, none⟩), .string ⟨#[32, 125]⟩] w5 fun e w' => e = .returned (.string (ba (oneF s.data.toList [32, 125] V).1)) /\ RdAt w' rb s o (oneF s.data.toList [32, 125] V).2 /\ Fr (· = rb) w5 w') := hid (z94 rb s ⟨#[32, 125]⟩ o V w5 hs ay.out aE.out);have ag := hid (z30 (z1f s.data.toList [32, 125] V) ay.out);have B : Hid ((oneF s.data.toList [32, 125] V).2.2 = 0 -> V.1 + 1 = (oneF s.data.toList [32, 125] V).2.1) := hid zcc;have G := hid (z1f s.data.toList [32, 125] V).1;have aH : Hid ((oneF s.data.toList [32, 125] V).1 = [32] -> (oneF s.data.toList [32, 125] V).2.2 = 0) := hid zdn;clear Z aA aB p t aC E az aa i x
   generalize oneF s.data.toList [32, 125] V = b6 at *
   obtain ⟨q6, T6⟩ := b6;simp only at af ag B G aH
   go_wp2_with fail
   refine af.out.mono ?_;rintro e w6 ⟨rfl, aI, C⟩;have aJ := hid aI;have aU := hid (aF.out.trans C);have aV := hid (aG.out.fr C);have aK := hid (F.out.frC C ah);clear aI C af aE aF aG F;have hT := U.out.1;have bc := R.out d.out;have aM := D.out;rw [d.out, if_pos rfl] at aM;have bd := z3j ag.out;have aY := G.out;have aW := d.out;go_wp2;go_roundw
   case rel => exact ⟨_, _, some ⟨g5, 0, none⟩, c5, K, g', q6, T6, by rw [List.length_append, <- HL.out]; rfl, rfl, by omega, by rw [List.length_append, <- HL.out]; exact aK, aJ, aV, aU, ag, aH, hid (fun e => by have := B.out e; omega), hid (by
    rw [List.length_append]
    by_cases e : T6.2 = 0
    ·rw [if_pos e]; have := B.out e; simp only [List.length_cons, List.length_nil]; omega
    ·rw [if_neg e]; simp only [List.length_cons, List.length_nil]; omega), HE⟩
   case measure =>
    have h1 := zdj (m := s.size) aJ.out;rw [HM.out, h1, if_pos aW]
    by_cases e : T6.2 = 0
    ·rw [if_pos e]; have := B.out e; omega
    ·rw [if_neg e]; omega
theorem zgi (f : Nat) (HC : ∀ g, g < f -> z7u g) : z6s f := by
 intro h o rb s S w hs ho hS hf hR hE;obtain ⟨i0, hi, aP, aQ, aR⟩ := info_parts zhi;have A := hR.lt
 have aS : Hid (∀ g, g + 1 <= f -> ∀ (S : St) (W : World), Wf s.data.toList S -> s.size - S.1 < g + 1 -> RdAt W rb s o S -> Env W rb -> Calls Tryz.prog 220 #[.pointer (some ⟨rb, 0, none⟩), .bool h] W (z9r rb s o W (partG s.data.toList (fun h b => z09 s.data.toList g h o [] b) h S))) :=
  hid (fun g hg S W h1 h2 h3 h4 => z5g g (HC g (by omega)) h o rb s S W hs (by omega) h1 h2 h3 h4)
 have aw := hid hR;have ax := hid hE;have ay := hid hS;have aa := hid hf;have az : Hid (Gw 263 4 (CPn 0) w.heap.size w (.slice none 0 0) [] []) := hid (Gw.nil _ _ _ _ _);clear hR hE hf hS HC
 go_enter Tryz.func189, Tryz.ntmps189
 go_wp2
 go_loopw [5] (fun v wr => ∃ (xs : List Pt) (vs : List Value) (a : Option Addr) (F k g : Nat) (T : St), v = .slice a xs.length F /\ g <= f /\ Hid (Gw 263 4 (CPn k) w.heap.size wr (.slice a xs.length F) xs vs) /\ Hid (RdAt wr rb s o T) /\ Hid (Env wr rb) /\ Hid (Fr (· = rb) w wr) /\ Hid (Wf s.data.toList T) /\ Hid (T.2 = 0 -> s.size - T.1 < g) /\ Hid (xs.length <= T.1 + (if T.2 = 0 then 0 else 1)) /\ Hid (z0c s.data.toList f h o [] S = z0c s.data.toList g h o xs T)) (fun _ wr => pl2 s.size rb wr)
 case atStart => exact ⟨[], [], none, 0, 0, f, S, rfl, Nat.le_refl _, az, aw, ax, hid (Fr.refl _ _), ay, aa, hid (Nat.zero_le _), hid rfl⟩
 case round =>
  obtain ⟨xs, vs, a, F, k, g, T, rfl, aT, N, B, aA, G, C, ah, af, HQ⟩ := hrel;clear az aw ax ay aa;have aY : w.heap.size <= wr.heap.size := G.out.size;have HM := hid (zdj (m := s.size) B.out);have O := hid (z32 rb s o T wr hs C.out B.out);obtain ⟨n, HL⟩ := nmd (xs.length);rw [<- HL.out]
  by_cases hlv : T.2 = 0 /\ T.1 < s.size
  rotate_left
  ·have HE := hid (HQ.out.trans (z88 (f := g) (h := h) (o := o) (acc := xs) (fun e => hlv ⟨e.1, by have := e.2.1; rw [z08] at this; exact this⟩)))
   rw [rest_eq C.out hlv] at O;clear hlv
   go_wp2_with fail
   refine O.out.mono ?_;rintro e w2 ⟨rfl, c⟩;have j := hid (B.out.same c);have D := hid (G.out.trans (Fr.of_same c));have i := hid (N.out.frP (rb := rb) (Fr.of_same c) A);clear c;go_wp2;go_ret;rw [HE.out];exact ⟨a, F, k, by rw [HL.out]; rfl, i.out.done (kpP k), j.out, D.out⟩
  ·have aZ := zgc (s := s) (S := T) hlv
   have E : Hid (∀ W, RdAt W rb s o T -> Calls Tryz.prog 219 #[.pointer (some ⟨rb, 0, none⟩), .string ⟨#[125]⟩] W fun e w' => e = .returned (.bool (nextF s.data.toList [125] T)) /\ Same W w') := hid (fun W hW => z2i rb s ⟨#[125]⟩ o T W hs C.out (by decide) hW)
   generalize restF s T = R at *
   cases hnx : nextF s.data.toList [125] T with
   | true =>
    have HE := hid (HQ.out.trans (z88 (f := g) (h := h) (o := o) (acc := xs) (fun e => by have := e.2.2; rw [hnx] at this; cases this)));rw [hnx] at E;clear hlv hnx
    go_wp2_with fail
    refine O.out.mono ?_;rintro e w2 ⟨rfl, c⟩;have j := hid (B.out.same c);have D := hid (G.out.trans (Fr.of_same c));have i := hid (N.out.frP (rb := rb) (Fr.of_same c) A);have U := hid (E.out w2 j.out);clear c E
    go_wp2_with fail
    refine U.out.mono ?_;rintro e w3 ⟨rfl, d⟩;have Y := hid (j.out.same d);have H := hid (D.out.trans (Fr.of_same d));have p := hid (i.out.frP (rb := rb) (Fr.of_same d) A);clear d;go_wp2;go_ret;rw [HE.out];exact ⟨a, F, k, by rw [HL.out]; rfl, p.out.done (kpP k), Y.out, H.out⟩
   | false =>
    obtain ⟨h0, aB⟩ := hlv
    have I : T.1 < s.data.toList.length := by rw [z08]; exact aB
    obtain ⟨g', rfl⟩ : ∃ g', g = g' + 1 := ⟨g - 1, by have := ah.out h0; omega⟩;have HE := hid (HQ.out.trans (parts_go (f := g') (h := h) (o := o) (acc := xs) ⟨h0, I, hnx⟩));have u := hid (z90 (cf := fun h b => z09 s.data.toList g' h o [] b) (fun h b => z3n _ _ _ _ _ _) (h := h) h0 I hnx);have ai := hid (zhr (l := s.data.toList) (cf := fun h b => z09 s.data.toList g' h o [] b) (fun h b => z3n _ _ _ _ _ _) h T);have aC := hid (fun W h3 h4 => aS.out g' aT T W C.out (ah.out h0) h3 h4);have x := hid h0;rw [hnx] at E;clear h0 aB I hnx HQ
    go_wp2_with fail
    refine O.out.mono ?_;rintro e w2 ⟨rfl, c⟩;have j := hid (B.out.same c);have D := hid (G.out.trans (Fr.of_same c));have aD := hid (aA.out.same c);have i := hid (N.out.frP (rb := rb) (Fr.of_same c) A);have U := hid (E.out w2 j.out);clear c E B G aA N
    go_wp2_with fail
    refine U.out.mono ?_;rintro e w3 ⟨rfl, d⟩;have Y := hid (j.out.same d);have H := hid (D.out.trans (Fr.of_same d));have aj := hid (aD.out.same d);have p := hid (i.out.frP (rb := rb) (Fr.of_same d) A);have aE := hid (aC.out w3 Y.out aj.out);clear d U j D aD i aC Y
    generalize partG s.data.toList (fun h b => z09 s.data.toList g' h o [] b) h T = r at *
    obtain ⟨⟨pk, pt, pn, cs⟩, V⟩ := r;simp only at HE ai u;have aF := hid (z30 ai.out C.out)
    go_wp2_with fail
    refine aE.out.mono ?_;rintro e w4 ⟨v2, n2, he, Z, aq, J⟩;simp only [Pt.k, Pt.t, Pt.n, Pt.cs] at he Z aq;obtain ⟨a2, l2, p2, rfl, -⟩ := Z.form;subst he;obtain ⟨K, HK⟩ : ∃ K, Hid (k <= K + 1 /\ n2 <= K) := ⟨max k n2, hid ⟨by omega, Nat.le_max_right _ _⟩⟩;have aG : Hid (SlC w4 (Fsh w3.heap.size w4) K (.slice a2 l2 p2) cs) := hid (Z.le HK.out.2);have ar := hid aq;have aH := hid (H.out.trans J);have aI := hid (aj.out.fr J);have y := hid ((p.out.frP J A).leP HK.out.1);have au := hid p.out.ownlt;rw [<- HL.out] at y au;have q := y.out.own;rw [<- HL.out] at q;have L := hid q;have bc : w3.heap.size <= w4.heap.size := J.size;have aU : w.heap.size <= w3.heap.size := H.out.size
    have bd : n <= 2001 := by have h1 := af.out; have h2 := z3j C.out; rw [x.out, if_pos rfl, <- HL.out] at h1; omega
    clear Z aq J aE q H aj p
    go_wp2_with (at_builtin; refine wpList_append_lies _ rfl _ _ 199 rfl w.heap.size 263 i0 _ 4 64 Tryz.underlying199 hi aP aQ aR rfl (by decide) _ _ _ rfl (L.out.alloc _) _ 1 1 [.int .i64 pk, .string pt, .string pn, .slice a2 l2 p2] rfl rfl (z1v _ #[.int .i64 pk, .string pt, .string pn, .slice a2 l2 p2] _ rfl) (by simp [Value.oneCell']) (by decide) (by unfold maxLen; omega) (by omega) (by simp; omega) (w4.heap.size + 1) (by simp) ?_; intro g5 c5 w5 hown5 hgrow5 hg5 _; have aJ := hid hown5; have M := hid hgrow5; have ag := hid hg5; clear hown5 hgrow5 hg5)
    have aK := ar.out.lt
    have aM : Hid (Gw 263 4 (CPn (K + 1)) w.heap.size w5 (.slice (some ⟨g5, 0, none⟩) (n + 1) c5) (xs ++ [.mk pk pt pn cs]) (vs ++ [.int .i64 pk, .string pt, .string pn, .slice a2 l2 p2])) := hid
     (y.out.push (kpP (K + 1)) HL.out (CP.mk aG.out) aU au.out rfl M.out aJ.out (by rcases ag.out with z | z; exact .inl z; right; rw [z]; omega))
    have aN : Hid (RdAt w5 rb s o V) := hid (ar.out.keep ((M.out.block rb (by rw [World.size_alloc]; omega) (fun e => by have := (L.out.lt rb e.symm).1; omega)).trans (Below.heap_alloc _ _ _ aK)));have aV : Hid (Fr (· = rb) w w5) := hid ((aH.out.alloc _).grown M.out (fun g hg => .inl (L.out.lt g hg).1));have aW : Hid (Env w5 rb) := hid (aI.out.frX (X := fun b => rb <= b) (((Fr.refl _ w4).alloc _).grown M.out (fun g hg => .inr (by have := (L.out.lt g hg).1; omega))) (fun _ h => h));clear ar aH aI L M aJ ag aG au y;have hT := ai.out.1;have bf := ah.out x.out;have aO := af.out;rw [x.out, if_pos rfl] at aO;have bg := z3j aF.out;have aX := x.out;go_roundw
    case rel => exact ⟨_, _, some ⟨g5, 0, none⟩, c5, K + 1, g', V, by rw [List.length_append, <- HL.out]; rfl, by omega, by rw [List.length_append, <- HL.out]; exact aM, aN, aW, aV, aF, hid (fun e => by rcases u.out with z | z; exact absurd e z; omega), hid (by
     rw [List.length_append]
     by_cases e : V.2 = 0
     ·rw [if_pos e]; rcases u.out with z | z
      ·exact absurd e z
      ·simp only [List.length_cons, List.length_nil]; omega
     ·rw [if_neg e]; simp only [List.length_cons, List.length_nil]; omega), HE⟩
    case measure =>
     have h1 := zdj (m := s.size) aN.out;rw [HM.out, h1, if_pos aX]
     by_cases e : V.2 = 0
     ·rw [if_pos e]; rcases u.out with z | z
      ·exact absurd e z
      ·omega
     ·rw [if_neg e]; omega
theorem zj1 : ∀ f, z7u f /\ z6s f := by
 intro f
 induction f using Nat.strongRecOn with
 | _ f ih => exact ⟨ziw f (fun g hg => (ih g hg).2), zgi f (fun g hg => (ih g hg).1)⟩

set_option maxHeartbeats 3200000
set_option maxRecDepth 100000
theorem za4 {m : Nat} : ∀ {xs : List Pt} {x : Pt}, smPs m xs -> smP m x -> smPs m (xs ++ [x])
 | [], x, _, h => by show smPs m [x]; rw [smPs]; exact ⟨h, by rw [smPs]; trivial⟩
 | y :: r, x, hs, h => by rw [smPs] at hs; show smPs m (y :: (r ++ [x])); rw [smPs]; exact ⟨hs.1, za4 hs.2 h⟩
theorem za5 {m : Nat} : ∀ {xs : List Cs} {x : Cs}, smCs m xs -> smC m x -> smCs m (xs ++ [x])
 | [], x, _, h => by show smCs m [x]; rw [smCs]; exact ⟨h, by rw [smCs]; trivial⟩
 | y :: r, x, hs, h => by rw [smCs] at hs; show smCs m (y :: (r ++ [x])); rw [smCs]; exact ⟨hs.1, za5 hs.2 h⟩
theorem z60 (l : List UInt8) : (ba l).size = l.length := by show l.toArray.size = _; simp
theorem z9a (l : List UInt8) (p : List UInt8 -> Bool) (S : St) : (longF l p S).1.length <= l.length := by
 unfold longF
 split
 ·split
  ·simp
  ·simp; omega
 ·simp
theorem key_len (l : List UInt8) (S : St) : (keyF l S).1.length <= l.length + 1 := by
 unfold keyF
 split
 ·have := z9a l numB (wordF l [61] S); simp; omega
 ·have := z9a l nameB S; omega
theorem zg3 {l : List UInt8} {m : Nat} (hm : l.length + 1 <= m) : ∀ f, (∀ h o acc S, smPs m acc -> smPs m (z0c l f h o acc S).1) /\ (∀ h o acc b, smCs m acc -> smCs m (z09 l f h o acc b).1)
 | 0 => ⟨fun h o acc S hs => by rw [z0c]; exact hs, fun h o acc b hs => by rw [z09]; exact hs⟩
 | f + 1 => by
  obtain ⟨g, c⟩ := zg3 hm f
  have a : smCs m [] := by rw [smCs]; trivial
  have d : smPs m [] := by rw [smPs]; trivial
  refine ⟨fun h o acc S hs => ?_, fun h o acc b hs => ?_⟩
  ·rw [z0c]
   split
   ·refine g _ _ _ _ (za4 hs ?_)
    rw [zg4]
    unfold partG
    split
    ·have hn := z9a l nameB (wordF l [123] S)
     unfold holeG
     simp only
     split
     ·exact ⟨by show (ba _).size <= m; rw [z60]; omega, c _ _ _ _ a⟩
     ·split
      ·exact ⟨by show (ba _).size <= m; rw [z60]; omega, c _ _ _ _ a⟩
      ·exact ⟨by show (ba _).size <= m; rw [z60]; omega, a⟩
    ·split
     ·exact ⟨Nat.zero_le _, a⟩
     ·exact ⟨Nat.zero_le _, a⟩
   ·exact hs
  ·rw [z09]
   split
   ·refine c _ _ _ _ (za5 hs ?_)
    rw [zd8];have hn := key_len l b.2
    unfold z16
    exact ⟨by show (ba _).size <= m; rw [z60]; omega, g _ _ _ _ d⟩
   ·exact hs
theorem zg2 {l : List UInt8} {m : Nat} (hm : l.length + 1 <= m) : smPs m (readF l).1 := (zg3 hm (l.length + 1)).1 false 0 [] (0, 0) (by rw [smPs]; trivial)
theorem z9o {w w1 w3 : World} (hb : Below w.heap.size w w1) (hf : Fr (· = w.heap.size) w1 w3) : Below w.heap.size w w3 := Fr.to_below hb hf (Nat.le_refl _)
theorem zfe {l : List UInt8} (h : 2000 < l.length) : z0r l = ([], 2, 0) := by unfold z0r; rw [if_pos h]
theorem zgn {l : List UInt8} (h : ¬ 2000 < l.length) {E : St} (hE : endF l (readF l).2 = E) (h2 : E.2 ≠ 0) : z0r l = ([], E.2, E.1) := by subst hE; unfold z0r; rw [if_neg h, if_pos h2]
theorem zcb {l : List UInt8} (h : ¬ 2000 < l.length) {E : St} (hE : endF l (readF l).2 = E) (h2 : E.2 = 0) (h3 : z12 (readF l).1 ≠ 0) : z0r l = ([], z12 (readF l).1, 0) := by subst hE; unfold z0r; rw [if_neg h, if_neg (by simpa using h2), if_pos h3]
theorem parse_ok {l : List UInt8} (h : ¬ 2000 < l.length) {E : St} (hE : endF l (readF l).2 = E) (h2 : E.2 = 0) (h3 : z12 (readF l).1 = 0) : z0r l = ((readF l).1, 0, 0) := by subst hE; unfold z0r; rw [if_neg h, if_neg (by simpa using h2), if_neg (by simpa using h3)]
theorem zgo (s : BA) (w : World) (hEV : EnvW w) :
  Calls Tryz.prog 159 #[.string s] w fun e w' => (∃ a cap n, e = .returned (.tuple #[.slice a (z0r s.data.toList).1.length cap, .int .i64 (z0r s.data.toList).2.1, .int .i64 (z0r s.data.toList).2.2]) /\ SlP w' (Fsh w.heap.size w') n (.slice a (z0r s.data.toList).1.length cap) (z0r s.data.toList).1) /\ Below w.heap.size w w' := by
 have o := z08 s
 by_cases hl : 2000 < s.size
 ·have HF := hid (zfe (l := s.data.toList) (by omega))
  have hB : (2000 : Int) < s.size := by omega
  clear hl o hEV
  go_enter Tryz.func159, Tryz.ntmps159
  go_wp2
  exact bodyPost_ret (v := .tuple #[.slice none 0 0, .int .i64 2, .int .i64 0]) (by simp [results, Tryz.results159, go_sem]) rfl (by
   rw [HF.out]; exact ⟨⟨none, 0, 0, rfl, Sl.nil _ _ _ _⟩, Below.refl _ _⟩)
 have hB : ¬ (2000 : Int) < s.size := by omega
 have F : Hid (s.size <= 2000) := hid (by omega);have HR : Hid (RdAt (w.alloc (.cells #[.string s, .int .i64 0, .int .i64 0, .int .i64 0] 234)) w.heap.size s 0 (0, 0)) := hid (z02 w #[.string s, .int .i64 0, .int .i64 0, .int .i64 0] 234);have HE : Hid (Env (w.alloc (.cells #[.string s, .int .i64 0, .int .i64 0, .int .i64 0] 234)) w.heap.size) := hid ⟨w, hEV, z03 _ _, Nat.le_refl _⟩
 have HC : Hid (Calls Tryz.prog 189 #[.pointer (some ⟨w.heap.size, 0, none⟩), .bool false] (w.alloc (.cells #[.string s, .int .i64 0, .int .i64 0, .int .i64 0] 234)) (zbj w.heap.size s 0 (w.alloc (.cells #[.string s, .int .i64 0, .int .i64 0, .int .i64 0] 234)) (readF s.data.toList))) :=
  hid ((zj1 (s.data.toList.length + 1)).2 false 0 w.heap.size s (0, 0) _ F.out (by omega) ⟨Nat.zero_le _, .inl rfl⟩ (fun _ => by simp only; omega) HR.out HE.out)
 have Z := hid (zc2 s.data.toList);have g : Hid ((readF s.data.toList).2.2 = 0 -> cntPs (readF s.data.toList).1 <= 2000) := hid (fun h => by have := zer h; have := F.out; omega);have J : Hid (smPs 140737488351232 (readF s.data.toList).1) := hid (zg2 (by have := F.out; omega));have aa := hid hEV;have ah := hid (World.size_alloc w (.cells #[.string s, .int .i64 0, .int .i64 0, .int .i64 0] 234));have G := hid (z03 w (.cells #[.string s, .int .i64 0, .int .i64 0, .int .i64 0] 234));have i := hid (zeh (l := s.data.toList));have I := hid o;have p : Hid (∀ E : St, endF s.data.toList (readF s.data.toList).2 = E -> E.2 ≠ 0 -> z0r s.data.toList = ([], E.2, E.1)) := hid (fun E h1 h2 => zgn (by omega) h1 h2);have r : Hid (∀ E : St, endF s.data.toList (readF s.data.toList).2 = E -> E.2 = 0 -> z12 (readF s.data.toList).1 ≠ 0 -> z0r s.data.toList = ([], z12 (readF s.data.toList).1, 0)) := hid (fun E h1 h2 h3 => zcb (by omega) h1 h2 h3);have t : Hid (∀ E : St, endF s.data.toList (readF s.data.toList).2 = E -> E.2 = 0 -> z12 (readF s.data.toList).1 = 0 -> z0r s.data.toList = ((readF s.data.toList).1, 0, 0)) := hid (fun E h1 h2 h3 => parse_ok (by omega) h1 h2 h3);clear hl o hEV HR HE
 go_enter Tryz.func159, Tryz.ntmps159
 go_wp2_with fail
 generalize w.alloc (.cells #[.string s, .int .i64 0, .int .i64 0, .int .i64 0] 234) = w1 at *
 generalize readF s.data.toList = rd at *
 obtain ⟨xs, V⟩ := rd;simp only at Z g J i p r t;refine HC.out.mono ?_;rintro e w2 ⟨a, cap, n, rfl, L, M, af⟩;simp only at L M;obtain ⟨ln, u⟩ := nmd (xs.length);rw [<- u.out];have j := hid M;have x := hid af;have y : Hid (SlP w2 (Fsh w1.heap.size w2) n (.slice a xs.length cap) xs) := hid L;clear L M af HC
 have aq : w.heap.size < w1.heap.size := by rw [ah.out]; omega
 have k1 := j.out.c1
 by_cases hv : V.1 < s.size
 ·have N : (V.1 : Int) < s.size := by omega
  obtain ⟨E, d⟩ : ∃ E, Hid (endF s.data.toList V = E) := ⟨_, hid rfl⟩;have ai : Hid (failF s.data.toList V = E) := hid (by rw [<- d.out]; unfold endF; rw [if_pos (by rw [I.out]; exact hv)]);have O := hid (z5k w.heap.size s 0 V w2 F.out Z.out j.out);rw [ai.out] at O;clear hv
  go_wp2_with fail
  refine O.out.mono ?_;rintro e w3 ⟨rfl, ag, H⟩;have z := hid ag;have R := hid (x.out.trans H);have A : Hid (SlP w3 (Fsh w1.heap.size w3) n (.slice a xs.length cap) xs) := hid (SlP.keep y.out (fun b hb => H.block b hb.2 (fun e => by omega)) (fun b hb => ⟨hb.1, Nat.lt_of_lt_of_le hb.2 H.size⟩));clear ag H O j x y k1;have c3 := z.out.c3;have c1 := z.out.c1;have f : Hid (Below w.heap.size w w3) := hid (z9o G.out R.out)
  by_cases he0 : E.2 = 0
  ·have B := hid (i.out (by rw [d.out]; exact he0))
   have T := hid (g.out B.out.1);rw [he0] at c3;simp only [Int.natCast_zero] at c3;have k := hid (z2v n w3 a cap xs (SlP.keep A.out (fun _ _ => rfl) (fun b hb => hb.2)) T.out J.out (aa.out.below f.out));rw [<- u.out] at k;have C := hid (r.out E d.out he0);have D := hid (t.out E d.out he0);clear p r t he0 i g B
   generalize z12 xs = q at *
   by_cases hq : q = 0
   ·have HF := hid (D.out hq)
    subst hq
    go_wp2_with fail
    refine k.out.mono ?_;rintro e w4 ⟨rfl, c⟩;have m := hid (z00 f.out c);have U : Hid (SlP w4 (Fsh w.heap.size w4) n (.slice a xs.length cap) xs) := hid (SlP.keep A.out (fun b hb => c.block b hb.2) (fun b hb => ⟨by have := G.out.size; omega, Nat.lt_of_lt_of_le hb.2 c.size⟩));clear c c3 c1;go_wp2
    exact bodyPost_ret (v := .tuple #[.slice a ln cap, .int .i64 0, .int .i64 0]) (by simp [results, Tryz.results159, go_sem]) rfl (by
     rw [HF.out, u.out]; exact ⟨⟨a, cap, n, rfl, U.out⟩, m.out⟩)
   ·have HF := hid (C.out hq)
    have X : ((q : Int) != 0) = true := by simp; omega
    clear hq
    go_wp2_with fail
    refine k.out.mono ?_;rintro e w4 ⟨rfl, c⟩;have m := hid (z00 f.out c);clear c c3 c1;go_wp2
    exact bodyPost_ret (v := .tuple #[.slice none 0 0, .int .i64 q, .int .i64 0]) (by simp [results, Tryz.results159, go_sem]) rfl (by
     rw [HF.out]; exact ⟨⟨none, 0, 0, rfl, Sl.nil _ _ _ _⟩, m.out⟩)
  ·have HF := hid (p.out E d.out he0)
   have X : ((E.2 : Int) != 0) = true := by simp; omega
   clear he0;go_wp2
   go_quiet (fail)
   go_wp2
   exact bodyPost_ret (v := .tuple #[.slice none 0 0, .int .i64 E.2, .int .i64 E.1]) (by simp [results, Tryz.results159, go_sem]) rfl (by
    rw [HF.out]; exact ⟨⟨none, 0, 0, rfl, Sl.nil _ _ _ _⟩, z0a f.out _⟩)
 ·have N : ¬ (V.1 : Int) < s.size := by omega
  obtain ⟨E, Y⟩ := nmd (V);have d : Hid (endF s.data.toList V = E) := hid (by rw [Y.out]; unfold endF; rw [if_neg (by rw [I.out]; exact hv)]);rw [<- Y.out] at j
  have ar : ¬ (E.1 : Int) < s.size := by rw [Y.out]; exact N
  obtain ⟨w3, aj⟩ := nmd (w2);rw [<- aj.out] at j x y k1 ⊢;have z := j;have R := x;have A := y;clear hv k1 j x y N;have c3 := z.out.c3;have c1 := z.out.c1;have f : Hid (Below w.heap.size w w3) := hid (z9o G.out R.out)
  by_cases he0 : E.2 = 0
  ·have B := hid (i.out (by rw [d.out]; exact he0))
   have T := hid (g.out B.out.1);rw [he0] at c3;simp only [Int.natCast_zero] at c3;have k := hid (z2v n w3 a cap xs (SlP.keep A.out (fun _ _ => rfl) (fun b hb => hb.2)) T.out J.out (aa.out.below f.out));rw [<- u.out] at k;have C := hid (r.out E d.out he0);have D := hid (t.out E d.out he0);clear p r t he0 i g B
   generalize z12 xs = q at *
   by_cases hq : q = 0
   ·have HF := hid (D.out hq)
    subst hq
    go_wp2_with fail
    refine k.out.mono ?_;rintro e w4 ⟨rfl, c⟩;have m := hid (z00 f.out c);have U : Hid (SlP w4 (Fsh w.heap.size w4) n (.slice a xs.length cap) xs) := hid (SlP.keep A.out (fun b hb => c.block b hb.2) (fun b hb => ⟨by have := G.out.size; omega, Nat.lt_of_lt_of_le hb.2 c.size⟩));clear c c3 c1;go_wp2
    exact bodyPost_ret (v := .tuple #[.slice a ln cap, .int .i64 0, .int .i64 0]) (by simp [results, Tryz.results159, go_sem]) rfl (by
     rw [HF.out, u.out]; exact ⟨⟨a, cap, n, rfl, U.out⟩, m.out⟩)
   ·have HF := hid (C.out hq)
    have X : ((q : Int) != 0) = true := by simp; omega
    clear hq
    go_wp2_with fail
    refine k.out.mono ?_;rintro e w4 ⟨rfl, c⟩;have m := hid (z00 f.out c);clear c c3 c1;go_wp2
    exact bodyPost_ret (v := .tuple #[.slice none 0 0, .int .i64 q, .int .i64 0]) (by simp [results, Tryz.results159, go_sem]) rfl (by
     rw [HF.out]; exact ⟨⟨none, 0, 0, rfl, Sl.nil _ _ _ _⟩, m.out⟩)
  ·have HF := hid (p.out E d.out he0)
   have X : ((E.2 : Int) != 0) = true := by simp; omega
   clear he0;go_wp2
   go_quiet (fail)
   go_wp2
   exact bodyPost_ret (v := .tuple #[.slice none 0 0, .int .i64 E.2, .int .i64 E.1]) (by simp [results, Tryz.results159, go_sem]) rfl (by
    rw [HF.out]; exact ⟨⟨none, 0, 0, rfl, Sl.nil _ _ _ _⟩, z0a f.out _⟩)
end Go.Proofs.YtdkkkeoicekdgaaGreatDoor

end

section

namespace Go.Proofs.YtdkkkeoicekdgaaGreatDoor.Dr
set_option maxHeartbeats 3200000
set_option maxRecDepth 100000
open Go.Lib (hid)
open Go.RowKit Go.Proofs.YtdkkkeoicekdgaaGreatDoor
theorem cnt_take {xs : List Pt} {k : Nat} {x : Pt} (h : xs[k]? = some x) : cntPs (xs.take (k + 1)) = cntPs (xs.take k) + 1 + cntCs x.cs := by rw [take_one h, z8h, z9m]; omega
theorem cnt_le (xs : List Pt) (k : Nat) : cntPs (xs.take k) <= cntPs xs := by
 rw [z1y, z1y xs, List.length_take];have := zbo xs k
 omega
def z6a (n : Nat) : Prop := ∀ (w : World) (a : Option Addr) (cap m : Nat) (xs : List Pt), SlP w (Old w) n (.slice a xs.length cap) xs -> 1 <= m -> m <= 1001 -> cntPs xs <= 2000 ->
 Calls Tryz.prog 231 #[.slice a xs.length cap, .int .i64 m] w fun e w' => e = .returned (.int .i64 (min (cntPs xs) m : Nat)) /\ Below w.heap.size w w'
theorem z7c (n : Nat) (HV : ∀ q, q < n -> z6a q) : z6a n := by
 intro w a cap m xs hxs hm1 hm2 hcn;have o := zcl xs;obtain ⟨L, HL⟩ := nmd (xs.length);rw [<- HL.out] at hxs o ⊢
 have az : L <= 2000 := by omega
 have HX := hid hxs;have Y := hid HV;have Z := hid hcn;have aa := hid hm1;have aA := hid o;clear hxs HV hcn hm1 o
 go_enter Tryz.func231, Tryz.ntmps231
 go_wp2
 go_loopw [5, 12] (fun v i wr => ∃ k N : Nat, k <= L /\ i = .int .i64 k /\ v = .int .i64 N /\ N < m /\ Hid (N = min (cntPs (xs.take k)) m) /\ Hid (Below w.heap.size w wr)) (fun _ i _ => L - (intOf i).toNat)
 case atStart => exact ⟨0, 0, Nat.zero_le _, rfl, rfl, aa.out, hid (by simp [cntPs]), hid (Below.refl _ _)⟩
 case round =>
  obtain ⟨k, N, hk, rfl, rfl, hN, HN, HB⟩ := hrel
  by_cases hlt : k < L
  ·obtain ⟨x, hx⟩ : ∃ x, xs[k]? = some x := ⟨_, List.getElem?_eq_getElem (by have := HL.out; omega)⟩
   obtain ⟨b, aB, rfl, -, H⟩ := (HX.out.old HB.out).at_ hx;obtain ⟨h0, h1, h2, q, a1, p1, I, h3, f⟩ := H.p;have s := hid (cnt_take hx);have J := hid (cnt_le xs (k + 1));obtain ⟨pk, pt, pn, cs⟩ := x;simp only [Pt.k, Pt.t, Pt.n, Pt.cs] at h0 h1 h2 h3 f s;have af := f.lenle;obtain ⟨L1, u⟩ := nmd (cs.length);rw [<- u.out] at h3 f af;have R := z02 wr #[.int .i64 pk, .string pt, .string pn, .slice a1 L1 p1] 263;have g3 := R.c3;have M : Hid (Below w.heap.size w (wr.alloc (.cells #[.int .i64 pk, .string pt, .string pn, .slice a1 L1 p1] 263))) := hid (z00 HB.out (z03 _ _));have ag : Hid (SlC (wr.alloc (.cells #[.int .i64 pk, .string pt, .string pn, .slice a1 L1 p1] 263)) (Old (wr.alloc (.cells #[.int .i64 pk, .string pt, .string pn, .slice a1 L1 p1] 263))) q (.slice a1 L1 p1) cs) := hid (f.old (z03 _ _));have ah := hid I;clear R H f hx I HX;go_wp2
   generalize wr.alloc (.cells #[.int .i64 pk, .string pt, .string pn, .slice a1 L1 p1] 263) = w3 at *
   clear g3 h0 h1 h2 h3 HB
   go_loopw [5, 21] (fun v i wr => ∃ j N : Nat, j <= L1 /\ i = .int .i64 j /\ v = .int .i64 N /\ N <= m /\ Hid (N = min (cntPs (xs.take k) + 1 + cntCs (cs.take j)) m) /\ Hid (Below w.heap.size w wr) /\ Hid (Below w3.heap.size w3 wr)) (fun _ i _ => L1 - (intOf i).toNat)
   case atStart => exact ⟨0, N + 1, Nat.zero_le _, by go_num, by go_num, by omega, hid (by rw [List.take_zero, cntCs]; have := HN.out; omega), M, hid (Below.refl _ _)⟩
   case round =>
    obtain ⟨j, N2, hj, rfl, rfl, ai, z, h, A⟩ := hrel;clear M HN
    by_cases hlj : j < L1
    ·obtain ⟨y, hy⟩ : ∃ y, cs[j]? = some y := ⟨_, List.getElem?_eq_getElem (by have := u.out; omega)⟩
     obtain ⟨b2, ay, rfl, aj, l⟩ := (ag.out.old A.out).at_ hy;obtain ⟨i0, a3, p3, i1, B⟩ := l.c;have O := hid (zhb hy);have C := hid (z5y hy);obtain ⟨key, kids⟩ := y;simp only [Cs.key, Cs.kids] at i0 i1 B O C;have aq := zcl kids
     have ar : Hid (cntPs kids <= 2000) := hid (by
      have h1 := O.out;have h2 := s.out;have h3 := J.out;have h4 := Z.out
      omega)
     obtain ⟨L3, D⟩ := nmd (kids.length);have g := B.old (z03 _ (.cells #[.string key, .slice a3 kids.length p3] 284));rw [<- D.out] at i1 g;have R := z02 wr #[.string key, .slice a3 L3 p3] 284;have g0 := R.c0;have g1 := R.c1;have T : Hid (Below w.heap.size w (wr.alloc (.cells #[.string key, .slice a3 L3 p3] 284))) := hid (z00 h.out (z03 _ _));have U : Hid (Below w3.heap.size w3 (wr.alloc (.cells #[.string key, .slice a3 L3 p3] 284))) := hid (z00 A.out (z03 _ _));have V := hid g;clear R l B g hy aj aq h A
     by_cases hfull : N2 < m
     ·obtain ⟨r, HR⟩ := nmd (m - N2)
      have aC : (m : Int) - (N2 : Int) = (r : Int) := by have := HR.out; omega
      have d := hid (Y.out q (by have := ah.out; omega) (wr.alloc (.cells #[.string key, .slice a3 L3 p3] 284)) a3 p3 r kids (by rw [<- D.out]; exact V.out) (by have := HR.out; omega) (by have := HR.out; omega) ar.out);rw [<- D.out] at d;obtain ⟨N3, E⟩ := nmd (min (cntPs kids) r);rw [<- E.out] at d
      have au : N2 + N3 <= m := by have h1 := E.out; have h2 := HR.out; omega
      have F : Hid (N2 + N3 = min (cntPs (xs.take k) + 1 + cntCs (cs.take (j + 1))) m) := hid (by
       have h1 := E.out; have h2 := HR.out; have h3 := z.out; have h4 := C.out; omega)
      go_wp2_with fail
      generalize wr.alloc (.cells #[.string key, .slice a3 L3 p3] 284) = w4 at *
      refine d.out.mono ?_;rintro e w5 ⟨rfl, G⟩;have aw := hid (z00 T.out G);have ax := hid (z00 U.out G);clear G g0 g1 d V;go_wp2;go_roundw
      case rel => exact ⟨j + 1, N2 + N3, by omega, by go_num, by go_num, au, F, aw, ax⟩
      case measure => simp [intOf]; omega
     ·have F : Hid (N2 = min (cntPs (xs.take k) + 1 + cntCs (cs.take (j + 1))) m) := hid (by
       have h3 := z.out; have h4 := C.out; omega)
      go_wp2;go_roundw
      case rel => exact ⟨j + 1, N2, by omega, by go_num, rfl, ai, F, T, U⟩
      case measure => simp [intOf]; omega
    ·have X : Hid (N2 = min (cntPs (xs.take (k + 1))) m) := hid (by
      have h1 := z.out;have h2 : cs.take j = cs := List.take_of_length_le (by have := u.out; omega);rw [h2] at h1
      rw [s.out]; exact h1)
     by_cases hfull : N2 < m
     ·go_wp2
      go_roundw
      case rel => exact ⟨k + 1, N2, by omega, by go_num, rfl, hfull, X, h⟩
      case measure => simp [intOf]; omega
     ·have HF : Hid (min (cntPs xs) m = m) := hid (by have h1 := X.out; have h2 := J.out; omega)
      go_wp2;go_ret;exact ⟨z3x (by have := HF.out; omega), h.out⟩
  ·have HF : Hid (min (cntPs xs) m = N) := hid (by have h1 := HN.out; rw [List.take_of_length_le (by have := HL.out; omega)] at h1; exact h1.symm)
   go_wp2;go_ret;exact ⟨z3x (by have := HF.out; omega), HB.out⟩
theorem many_any : ∀ n, z6a n := fun n => by
 induction n using Nat.strongRecOn with
 | _ n ih => exact z7c n ih
theorem zej : ∀ xs ys : List Pt, dpPs (xs ++ ys) = max (dpPs xs) (dpPs ys)
 | [], ys => by simp [dpPs]
 | x :: r, ys => by rw [List.cons_append, dpPs, dpPs, zej r ys]; omega
theorem zek : ∀ xs ys : List Cs, dpCs (xs ++ ys) = max (dpCs xs) (dpCs ys)
 | [], ys => by simp [dpCs]
 | x :: r, ys => by rw [List.cons_append, dpCs, dpCs, zek r ys]; omega
theorem dp_le (xs : List Pt) (k : Nat) : dpPs (xs.take k) <= dpPs xs := by
 have h := zej (xs.take k) (xs.drop k);rw [List.take_append_drop] at h
 omega
theorem dpC_le (xs : List Cs) (k : Nat) : dpCs (xs.take k) <= dpCs xs := by
 have h := zek (xs.take k) (xs.drop k);rw [List.take_append_drop] at h
 omega
def z6c (n : Nat) : Prop := ∀ (w : World) (a : Option Addr) (cap m : Nat) (xs : List Pt), SlP w (Old w) n (.slice a xs.length cap) xs -> dpPs xs < m -> m <= 33 ->
 Calls Tryz.prog 232 #[.slice a xs.length cap, .int .i64 m] w fun e w' => e = .returned (.int .i64 (dpPs xs : Nat)) /\ Below w.heap.size w w'
theorem z7j (n : Nat) (HV : ∀ q, q < n -> z6c q) : z6c n := by
 intro w a cap m xs hxs hm1 hm2;have Z := hxs.lenle;obtain ⟨L, HL⟩ := nmd (xs.length);rw [<- HL.out] at hxs Z ⊢;have HX := hid hxs;have aa := hid HV;have af := hid hm1;clear hxs HV hm1
 go_enter Tryz.func232, Tryz.ntmps232
 go_wp2
 go_loopw [5, 13] (fun v i wr => ∃ k N : Nat, k <= L /\ i = .int .i64 k /\ v = .int .i64 N /\ Hid (N = dpPs (xs.take k)) /\ Hid (Below w.heap.size w wr)) (fun _ i _ => L - (intOf i).toNat)
 case atStart => exact ⟨0, 0, Nat.zero_le _, rfl, rfl, hid (by simp [dpPs]), hid (Below.refl _ _)⟩
 case round =>
  obtain ⟨k, N, hk, rfl, rfl, HN, HB⟩ := hrel
  by_cases hlt : k < L
  ·obtain ⟨x, hx⟩ : ∃ x, xs[k]? = some x := ⟨_, List.getElem?_eq_getElem (by have := HL.out; omega)⟩
   obtain ⟨b, aw, rfl, -, O⟩ := (HX.out.old HB.out).at_ hx;obtain ⟨h0, h1, h2, q, a1, p1, T, h3, g⟩ := O.p;have u := hid (zb8 hx);have ag := hid (dp_le xs (k + 1));obtain ⟨pk, pt, pn, cs⟩ := x;simp only [Pt.k, Pt.t, Pt.n, Pt.cs] at h0 h1 h2 h3 g u;have ah := g.lenle;obtain ⟨L1, z⟩ := nmd (cs.length);rw [<- z.out] at h3 g ah;have R := z02 wr #[.int .i64 pk, .string pt, .string pn, .slice a1 L1 p1] 263;have g3 := R.c3;have U : Hid (Below w.heap.size w (wr.alloc (.cells #[.int .i64 pk, .string pt, .string pn, .slice a1 L1 p1] 263))) := hid (z00 HB.out (z03 _ _));have ai : Hid (SlC (wr.alloc (.cells #[.int .i64 pk, .string pt, .string pn, .slice a1 L1 p1] 263)) (Old (wr.alloc (.cells #[.int .i64 pk, .string pt, .string pn, .slice a1 L1 p1] 263))) q (.slice a1 L1 p1) cs) := hid (g.old (z03 _ _));have aj := hid T;clear R O g hx T HX;go_wp2
   generalize wr.alloc (.cells #[.int .i64 pk, .string pt, .string pn, .slice a1 L1 p1] 263) = w3 at *
   clear g3 h0 h1 h2 h3 HB
   go_loopw [5, 20] (fun v i wr => ∃ j N : Nat, j <= L1 /\ i = .int .i64 j /\ v = .int .i64 N /\ Hid (N = max (dpPs (xs.take k)) (dpCs (cs.take j))) /\ Hid (Below w.heap.size w wr) /\ Hid (Below w3.heap.size w3 wr)) (fun _ i _ => L1 - (intOf i).toNat)
   case atStart => exact ⟨0, N, Nat.zero_le _, by go_num, rfl, hid (by rw [List.take_zero, dpCs]; have := HN.out; omega), U, hid (Below.refl _ _)⟩
   case round =>
    obtain ⟨j, N2, hj, rfl, rfl, A, B, C⟩ := hrel;clear U HN
    by_cases hlj : j < L1
    ·obtain ⟨y, hy⟩ : ∃ y, cs[j]? = some y := ⟨_, List.getElem?_eq_getElem (by have := z.out; omega)⟩
     obtain ⟨b2, au, rfl, aq, s⟩ := (ai.out.old C.out).at_ hy;obtain ⟨i0, a3, p3, i1, E⟩ := s.c;have l := hid (zb9 hy);have V := hid (dpC_le cs (j + 1));obtain ⟨key, kids⟩ := y;simp only [Cs.key, Cs.kids] at i0 i1 E l
     have F : Hid (dpPs kids + 1 < m) := hid (by
      have h1 := V.out;have h2 := l.out;have h3 := u.out;have h4 := ag.out;have h5 := af.out
      omega)
     obtain ⟨L3, G⟩ := nmd (kids.length);have h := E.old (z03 _ (.cells #[.string key, .slice a3 kids.length p3] 284));rw [<- G.out] at i1 h;have R := z02 wr #[.string key, .slice a3 L3 p3] 284;have g0 := R.c0;have g1 := R.c1;have X : Hid (Below w.heap.size w (wr.alloc (.cells #[.string key, .slice a3 L3 p3] 284))) := hid (z00 B.out (z03 _ _));have Y : Hid (Below w3.heap.size w3 (wr.alloc (.cells #[.string key, .slice a3 L3 p3] 284))) := hid (z00 C.out (z03 _ _));have H := hid h;clear R s E h hy aq B C;obtain ⟨r, HR⟩ := nmd (m - 1)
     have ax : 1 < m := by have := F.out; omega
     have ay : (m : Int) - 1 = (r : Int) := by have := HR.out; omega
     have d := hid (aa.out q (by have := aj.out; omega) (wr.alloc (.cells #[.string key, .slice a3 L3 p3] 284)) a3 p3 r kids (by rw [<- G.out]; exact H.out) (by have h1 := HR.out; have h2 := F.out; omega) (by have := HR.out; omega));rw [<- G.out] at d;obtain ⟨N3, o⟩ := nmd (dpPs kids);rw [<- o.out] at d
     have az : N3 <= 33 := by have h1 := o.out; have h2 := F.out; omega
     obtain ⟨D, HD⟩ := nmd (N3 + 1)
     have aA : 1 + (N3 : Int) = (D : Int) := by have := HD.out; omega
     by_cases hup : N2 < D
     ·have I : Hid (D = max (dpPs (xs.take k)) (dpCs (cs.take (j + 1)))) := hid (by
       have h1 := o.out; have h2 := HD.out; have h3 := A.out; have h4 := l.out; omega)
      go_wp2_with fail
      generalize wr.alloc (.cells #[.string key, .slice a3 L3 p3] 284) = w4 at *
      refine d.out.mono ?_;rintro e w5 ⟨rfl, f⟩;have J := hid (z00 X.out f);have M := hid (z00 Y.out f);clear f g0 g1 d H;go_wp2;go_roundw
      case rel => exact ⟨j + 1, D, by omega, by go_num, rfl, I, J, M⟩
      case measure => simp [intOf]; omega
     ·have I : Hid (N2 = max (dpPs (xs.take k)) (dpCs (cs.take (j + 1)))) := hid (by
       have h1 := o.out; have h2 := HD.out; have h3 := A.out; have h4 := l.out; omega)
      go_wp2_with fail
      generalize wr.alloc (.cells #[.string key, .slice a3 L3 p3] 284) = w4 at *
      refine d.out.mono ?_;rintro e w5 ⟨rfl, f⟩;have J := hid (z00 X.out f);have M := hid (z00 Y.out f);clear f g0 g1 d H;go_wp2;go_roundw
      case rel => exact ⟨j + 1, N2, by omega, by go_num, rfl, I, J, M⟩
      case measure => simp [intOf]; omega
    ·have ar : Hid (N2 = dpPs (xs.take (k + 1))) := hid (by
      have h1 := A.out;have h2 : cs.take j = cs := List.take_of_length_le (by have := z.out; omega);rw [h2] at h1
      rw [u.out]; exact h1)
     go_wp2;go_roundw
     case rel => exact ⟨k + 1, N2, by omega, by go_num, rfl, ar, B⟩
     case measure => simp [intOf]; omega
  ·have HF : Hid (dpPs xs = N) := hid (by have h1 := HN.out; rw [List.take_of_length_le (by have := HL.out; omega)] at h1; exact h1.symm)
   go_wp2;go_ret;exact ⟨z3x (by have := HF.out; omega), HB.out⟩
theorem deep_any : ∀ n, z6c n := fun n => by
 induction n using Nat.strongRecOn with
 | _ n ih => exact z7j n ih
end Go.Proofs.YtdkkkeoicekdgaaGreatDoor.Dr

end
