/- The reader: a part, cases, parts. -/
import Derived.Test.YtdkkkeoicekdgaaGreatDoorZFg18

section

namespace Go.Proofs.YtdkkkeoicekdgaaGreatDoor
set_option maxHeartbeats 3200000
set_option maxRecDepth 100000
open Go.Lib (hid)
open Go.RowKit
theorem Sl.form {α : Type} {k : Nat} {C : α -> List Value -> Prop} {w : World} {S : Nat -> Prop} {v : Value} {xs : List α} (h : Sl k C w S v xs) : ∃ a n cap, v = .slice a n cap /\ n = xs.length := by
 obtain ⟨a, cap, hv, -⟩ := h;exact ⟨a, _, cap, hv, rfl⟩
theorem zgl {l : List UInt8} {cf : Bool -> List UInt8 × St -> List Cs × St} {h : Bool} {S : St} (h1 : nextF l [123] S = true) : partG l cf h S = holeG l cf h S := by unfold partG; rw [if_pos h1]
theorem zgm {l : List UInt8} {cf : Bool -> List UInt8 × St -> List Cs × St} {h : Bool} {S : St} (h1 : nextF l [123] S = false) (h2 : nextF l [35] S = true) : partG l cf h S = (.mk 3 (ba []) (ba []) [], wordF l [35] (if h then S else failF l S)) := by
 unfold partG; rw [if_neg (by rw [h1]; simp), if_pos h2]
theorem zgk {l : List UInt8} {cf : Bool -> List UInt8 × St -> List Cs × St} {h : Bool} {S : St} (h1 : nextF l [123] S = false) (h2 : nextF l [35] S = false) : partG l cf h S = (.mk 1 (ba (textL l l.length [] S).1) (ba []) [], (textL l l.length [] S).2) := by
 unfold partG; rw [if_neg (by rw [h1]; simp), if_neg (by rw [h2]; simp)]
theorem z5b (f : Nat) (HC : z7p f) (h : Bool) (o rb : Nat) (s : BA) (S : St) (w : World) (hs : s.size <= 2000) (ho : o + f <= 4000) (hS : Wf s.data.toList S) (hf : s.size - S.1 < f + 1) (hR : RdAt w rb s o S) (hE : Env w rb) :
  Calls Tryz.prog 220 #[.pointer (some ⟨rb, 0, none⟩), .bool h] w (z9p rb s o w (partG s.data.toList (fun h b => z09 s.data.toList f h o [] b) h S)) := by
 have Y := hR.lt;have z : Hid (Row (w.alloc (.cells #[.int .i64 0, .string ⟨#[]⟩, .string ⟨#[]⟩, .slice none 0 0] 263)) w.heap.size 263 [.int .i64 0, .string ⟨#[]⟩, .string ⟨#[]⟩, .slice none 0 0]) := hid (z02 w #[.int .i64 0, .string ⟨#[]⟩, .string ⟨#[]⟩, .slice none 0 0] 263);have y : Hid (RdAt (w.alloc (.cells #[.int .i64 0, .string ⟨#[]⟩, .string ⟨#[]⟩, .slice none 0 0] 263)) rb s o S) := hid (hR.alloc _);have G : Hid (Env (w.alloc (.cells #[.int .i64 0, .string ⟨#[]⟩, .string ⟨#[]⟩, .slice none 0 0] 263)) rb) := hid (hE.below (z04 _ _));have A : Hid (Fr (· = rb) w (w.alloc (.cells #[.int .i64 0, .string ⟨#[]⟩, .string ⟨#[]⟩, .slice none 0 0] 263))) := hid ((Fr.refl _ _).alloc _);have HS := hid hS;have U := hid hf;have x : Hid (Calls Tryz.prog 219 #[.pointer (some ⟨rb, 0, none⟩), .string ⟨#[123]⟩] (w.alloc (.cells #[.int .i64 0, .string ⟨#[]⟩, .string ⟨#[]⟩, .slice none 0 0] 263)) fun e w' => e = .returned (.bool (nextF s.data.toList [123] S)) /\ Same (w.alloc (.cells #[.int .i64 0, .string ⟨#[]⟩, .string ⟨#[]⟩, .slice none 0 0] 263)) w') := hid (z2k rb s ⟨#[123]⟩ o S _ hs hS (by decide) y.out);clear hR hE hS hf
 cases hb1 : nextF s.data.toList [123] S with
 | true =>
  rw [hb1] at x;have HK := hid (zgl (cf := fun h b => z09 s.data.toList f h o [] b) (h := h) hb1);have O := hid hb1;clear hb1
  go_enter Tryz.func220, Tryz.ntmps220
  go_wp2_with fail
  generalize w.alloc (.cells #[.int .i64 0, .string ⟨#[]⟩, .string ⟨#[]⟩, .slice none 0 0] 263) = w1 at *
  refine x.out.mono ?_;rintro e w2 ⟨rfl, d⟩;have l := hid (d.row z.out);have p := hid (A.out.trans (Fr.of_same d));have HH := hid (hole_any f HC h o rb s S w2 hs ho HS.out O.out U.out (y.out.same d) (G.out.same d));clear d x z y G A O
  generalize holeG s.data.toList (fun h b => z09 s.data.toList f h o [] b) h S = r at *
  obtain ⟨⟨k, t, nm, cs⟩, V⟩ := r
  go_wp2_with fail
  refine HH.out.mono ?_;rintro e w3 ⟨v, n, he, L, F, D⟩;simp only [Pt.k, Pt.t, Pt.n, Pt.cs] at he L F;obtain ⟨a, ln, M, rfl, -⟩ := L.form;subst he;have j := hid F;have X := hid L;have g := hid (l.out.fr D (by omega));have m := hid (p.out.trans D);have HZ : Hid (w.heap.size < w2.heap.size) := hid l.out.lt;clear F L D HH l p;have q0 := g.out.c0;have q1 := g.out.c1;have q2 := g.out.c2;have q3 := g.out.c3;have y0 := g.out.thaw 0;have y1 := g.out.thaw 1;have y2 := g.out.thaw 2;have y3 := g.out.thaw 3;go_wp2;have Q7 := g.out.put4 (.int .i64 k) (.string t) (.string nm) (.slice a ln M);have B7 := But.put4 w.heap.size w3 (.int .i64 k) (.string t) (.string nm) (.slice a ln M)
  generalize (((w3.setCell ⟨w.heap.size, 0, none⟩ (.int .i64 k)).setCell ⟨w.heap.size, 1, none⟩ (.string t)).setCell ⟨w.heap.size, 2, none⟩ (.string nm)).setCell ⟨w.heap.size, 3, none⟩ (.slice a ln M) = w4 at *
  have e0 := Q7.c0;have e1 := Q7.c1;have e2 := Q7.c2;have e3 := Q7.c3;have hz := HZ.out
  exact bodyPost_ret (v := .agg #[.int .i64 k, .string t, .string nm, .slice a ln M]) (by simp [results, Tryz.results220, go_sem, e0, e1, e2, e3]) rfl (by
   rw [HK.out]
   exact ⟨_, n, rfl, X.out.fsh (fun b hb _ => B7.block b (by omega)) (by omega) (by rw [B7.size]; exact Nat.le_refl _), j.out.but B7 (by omega), But.fr m.out B7 (Nat.le_refl _)⟩)
 | false =>
  rw [hb1] at x
  cases hb2 : nextF s.data.toList [35] S with
  | true =>
   have HK := hid (zgm (cf := fun h b => z09 s.data.toList f h o [] b) (h := h) hb1 hb2);have E : Hid (∀ W, RdAt W rb s o S -> Calls Tryz.prog 219 #[.pointer (some ⟨rb, 0, none⟩), .string ⟨#[35]⟩] W fun e w' => e = .returned (.bool true) /\ Same W w') := hid (fun W hW => by rw [<- hb2]; exact z2k rb s ⟨#[35]⟩ o S W hs HS.out (by decide) hW);clear hb1 hb2
   cases h with
   | true =>
    go_enter Tryz.func220, Tryz.ntmps220
    go_wp2_with fail
    generalize w.alloc (.cells #[.int .i64 0, .string ⟨#[]⟩, .string ⟨#[]⟩, .slice none 0 0] 263) = w1 at *
    refine x.out.mono ?_;rintro e w2 ⟨rfl, d⟩;have l := hid (d.row z.out);have p := hid (A.out.trans (Fr.of_same d));have q := hid (y.out.same d);have B := hid (E.out w2 q.out);clear d x z y G A E
    go_wp2_with fail
    refine B.out.mono ?_;rintro e w3 ⟨rfl, i⟩;have g := hid (i.row l.out);have m := hid (p.out.trans (Fr.of_same i));have j := hid (q.out.same i);clear i B l q p;have H : Hid (Calls Tryz.prog 247 #[.pointer (some ⟨rb, 0, none⟩), .string ⟨#[35]⟩] w3 fun e w' => e = .returned (.tuple #[]) /\ RdAt w' rb s o (wordF s.data.toList [35] S) /\ Fr (· = rb) w3 w') := hid (z14 rb s ⟨#[35]⟩ o S w3 hs (by decide) HS.out j.out)
    go_wp2_with fail
    refine H.out.mono ?_;rintro e w4 ⟨rfl, C, u⟩;have I := hid C;have c := hid (g.out.fr u (by omega));have J := hid (m.out.trans u);clear C u H g m j;have q0 := c.out.c0;have q1 := c.out.c1;have q2 := c.out.c2;have q3 := c.out.c3;have y0 := c.out.thaw 0;have y1 := c.out.thaw 1;have y2 := c.out.thaw 2;have y3 := c.out.thaw 3;go_wp2;have Q7 := c.out.put4 (.int .i64 3) (.string ⟨#[]⟩) (.string ⟨#[]⟩) (.slice none 0 0);have B7 := But.put4 w.heap.size w4 (.int .i64 3) (.string ⟨#[]⟩) (.string ⟨#[]⟩) (.slice none 0 0)
    generalize (((w4.setCell ⟨w.heap.size, 0, none⟩ (.int .i64 3)).setCell ⟨w.heap.size, 1, none⟩ (.string ⟨#[]⟩)).setCell ⟨w.heap.size, 2, none⟩ (.string ⟨#[]⟩)).setCell ⟨w.heap.size, 3, none⟩ (.slice none 0 0) = w5 at *
    have e0 := Q7.c0;have e1 := Q7.c1;have e2 := Q7.c2;have e3 := Q7.c3
    skip
    exact bodyPost_ret (v := .agg #[.int .i64 3, .string ⟨#[]⟩, .string ⟨#[]⟩, .slice none 0 0]) (by simp [results, Tryz.results220, go_sem, e0, e1, e2, e3]) rfl (by
     rw [HK.out]
     exact ⟨_, 0, rfl, Sl.nil _ _ _ _, I.out.but B7 (by omega), But.fr J.out B7 (Nat.le_refl _)⟩)
   | false =>
    go_enter Tryz.func220, Tryz.ntmps220
    go_wp2_with fail
    generalize w.alloc (.cells #[.int .i64 0, .string ⟨#[]⟩, .string ⟨#[]⟩, .slice none 0 0] 263) = w1 at *
    refine x.out.mono ?_;rintro e w2 ⟨rfl, d⟩;have l := hid (d.row z.out);have p := hid (A.out.trans (Fr.of_same d));have q := hid (y.out.same d);have B := hid (E.out w2 q.out);clear d x z y G A E
    go_wp2_with fail
    refine B.out.mono ?_;rintro e w3 ⟨rfl, i⟩;have g := hid (i.row l.out);have m := hid (p.out.trans (Fr.of_same i));have j := hid (q.out.same i);clear i B l q p;have R := hid (z5e rb s o S w3 hs HS.out j.out);clear j
    go_wp2_with fail
    refine R.out.mono ?_;rintro e N ⟨rfl, F, D⟩;have j := hid F;have g := hid (g.out.fr D (by omega));have m := hid (m.out.trans D);have HS := hid (z2z (z1u s.data.toList S) HS.out);clear F D R;have H : Hid (Calls Tryz.prog 247 #[.pointer (some ⟨rb, 0, none⟩), .string ⟨#[35]⟩] N fun e w' => e = .returned (.tuple #[]) /\ RdAt w' rb s o (wordF s.data.toList [35] (failF s.data.toList S)) /\ Fr (· = rb) N w') := hid (z14 rb s ⟨#[35]⟩ o (failF s.data.toList S) N hs (by decide) HS.out j.out)
    go_wp2_with fail
    refine H.out.mono ?_;rintro e w4 ⟨rfl, C, u⟩;have I := hid C;have c := hid (g.out.fr u (by omega));have J := hid (m.out.trans u);clear C u H g m j;have q0 := c.out.c0;have q1 := c.out.c1;have q2 := c.out.c2;have q3 := c.out.c3;have y0 := c.out.thaw 0;have y1 := c.out.thaw 1;have y2 := c.out.thaw 2;have y3 := c.out.thaw 3;go_wp2;have Q7 := c.out.put4 (.int .i64 3) (.string ⟨#[]⟩) (.string ⟨#[]⟩) (.slice none 0 0);have B7 := But.put4 w.heap.size w4 (.int .i64 3) (.string ⟨#[]⟩) (.string ⟨#[]⟩) (.slice none 0 0)
    generalize (((w4.setCell ⟨w.heap.size, 0, none⟩ (.int .i64 3)).setCell ⟨w.heap.size, 1, none⟩ (.string ⟨#[]⟩)).setCell ⟨w.heap.size, 2, none⟩ (.string ⟨#[]⟩)).setCell ⟨w.heap.size, 3, none⟩ (.slice none 0 0) = w5 at *
    have e0 := Q7.c0;have e1 := Q7.c1;have e2 := Q7.c2;have e3 := Q7.c3
    skip
    exact bodyPost_ret (v := .agg #[.int .i64 3, .string ⟨#[]⟩, .string ⟨#[]⟩, .slice none 0 0]) (by simp [results, Tryz.results220, go_sem, e0, e1, e2, e3]) rfl (by
     rw [HK.out]
     exact ⟨_, 0, rfl, Sl.nil _ _ _ _, I.out.but B7 (by omega), But.fr J.out B7 (Nat.le_refl _)⟩)
  | false =>
   have HK := hid (zgk (cf := fun h b => z09 s.data.toList f h o [] b) (h := h) hb1 hb2);have E : Hid (∀ W, RdAt W rb s o S -> Calls Tryz.prog 219 #[.pointer (some ⟨rb, 0, none⟩), .string ⟨#[35]⟩] W fun e w' => e = .returned (.bool false) /\ Same W w') := hid (fun W hW => by rw [<- hb2]; exact z2k rb s ⟨#[35]⟩ o S W hs HS.out (by decide) hW);clear hb1 hb2
   go_enter Tryz.func220, Tryz.ntmps220
   go_wp2_with fail
   generalize w.alloc (.cells #[.int .i64 0, .string ⟨#[]⟩, .string ⟨#[]⟩, .slice none 0 0] 263) = w1 at *
   refine x.out.mono ?_;rintro e w2 ⟨rfl, d⟩;have l := hid (d.row z.out);have p := hid (A.out.trans (Fr.of_same d));have q := hid (y.out.same d);have B := hid (E.out w2 q.out);clear d x z y G A E
   go_wp2_with fail
   refine B.out.mono ?_;rintro e w3 ⟨rfl, i⟩;have g := hid (i.row l.out);have m := hid (p.out.trans (Fr.of_same i));have j := hid (q.out.same i);clear i B l q p;have T := hid (text_any rb s o S w3 hs HS.out j.out);clear j
   generalize textL s.data.toList s.data.toList.length [] S = r at *
   obtain ⟨tx, V⟩ := r
   go_wp2_with fail
   refine T.out.mono ?_;rintro e w4 ⟨rfl, C, u⟩;have I := hid C;have c := hid (g.out.fr u (by omega));have J := hid (m.out.trans u);clear C u T g m;have q0 := c.out.c0;have q1 := c.out.c1;have q2 := c.out.c2;have q3 := c.out.c3;have y0 := c.out.thaw 0;have y1 := c.out.thaw 1;have y2 := c.out.thaw 2;have y3 := c.out.thaw 3;go_wp2;have Q7 := c.out.put4 (.int .i64 1) (.string (ba tx)) (.string ⟨#[]⟩) (.slice none 0 0);have B7 := But.put4 w.heap.size w4 (.int .i64 1) (.string (ba tx)) (.string ⟨#[]⟩) (.slice none 0 0)
   generalize (((w4.setCell ⟨w.heap.size, 0, none⟩ (.int .i64 1)).setCell ⟨w.heap.size, 1, none⟩ (.string (ba tx))).setCell ⟨w.heap.size, 2, none⟩ (.string ⟨#[]⟩)).setCell ⟨w.heap.size, 3, none⟩ (.slice none 0 0) = w5 at *
   have e0 := Q7.c0;have e1 := Q7.c1;have e2 := Q7.c2;have e3 := Q7.c3
   skip
   exact bodyPost_ret (v := .agg #[.int .i64 1, .string (ba tx), .string ⟨#[]⟩, .slice none 0 0]) (by simp [results, Tryz.results220, go_sem, e0, e1, e2, e3]) rfl (by
    rw [HK.out]
    exact ⟨_, 0, rfl, Sl.nil _ _ _ _, I.out.but B7 (by omega), But.fr J.out B7 (Nat.le_refl _)⟩)

set_option maxHeartbeats 3200000
set_option maxRecDepth 100000
def pl2 (m rb : Nat) (w : World) : Nat := match w.cell? ⟨rb, 1, none⟩, w.cell? ⟨rb, 3, none⟩ with
 | some (.int _ a), some (.int _ e) => 2 * (m - a.toNat) + (if e = 0 then 1 else 0)
 | _, _ => 0
theorem zdg {m rb : Nat} {w : World} {s : BA} {o : Nat} {S : St} (h : RdAt w rb s o S) : pl2 m rb w = 2 * (m - S.1) + (if S.2 = 0 then 1 else 0) := by
 unfold pl2; rw [h.c1, h.c3]
 by_cases h0 : S.2 = 0
 ·rw [h0]; simp
 ·rw [if_neg h0]; simp [h0]
theorem zfn {l : List UInt8} {f : Nat} {h : Bool} {o : Nat} {acc : List Cs} {b : List UInt8 × St} (hb : b.1 ≠ [32]) : z09 l f h o acc b = (acc, b.2) := by
 cases f with
 | zero => rw [z09]
 | succ f => rw [z09, if_neg hb]
theorem cases_go {l : List UInt8} {f : Nat} {h : Bool} {o : Nat} {acc : List Cs} {b : List UInt8 × St} (hb : b.1 = [32]) :
  z09 l (f + 1) h o acc b = z09 l f h o (acc ++ [(z16 l (fun S => z0c l f h (o + 1) [] S) o b.2).1]) (oneF l [32, 125] (z16 l (fun S => z0c l f h (o + 1) [] S) o b.2).2) := by
 rw [z09, if_pos hb]
theorem z84 {l : List UInt8} {f : Nat} {h : Bool} {o : Nat} {acc : List Pt} {S : St} (hb : ¬ (S.2 = 0 /\ S.1 < l.length /\ nextF l [125] S = false)) : z0c l f h o acc S = (acc, S) := by
 cases f with
 | zero => rw [z0c]
 | succ f => rw [z0c, if_neg hb]
theorem parts_go {l : List UInt8} {f : Nat} {h : Bool} {o : Nat} {acc : List Pt} {S : St} (hb : S.2 = 0 /\ S.1 < l.length /\ nextF l [125] S = false) :
  z0c l (f + 1) h o acc S = z0c l f h o (acc ++ [(partG l (fun h b => z09 l f h o [] b) h S).1]) (partG l (fun h b => z09 l f h o [] b) h S).2 := by
 rw [z0c, if_pos hb]
theorem rest_eq {s : BA} {S : St} (hS : Wf s.data.toList S) (h : ¬ (S.2 = 0 /\ S.1 < s.size)) : restF s S = ⟨#[]⟩ := by
 by_cases h0 : S.2 = 0
 ·have h1 : (restF s S).size = 0 := by rw [z58, if_pos h0]; have := z3j hS; omega
  apply ByteArray.ext
  exact Array.eq_empty_of_size_eq_zero h1
 ·exact z1w h0
theorem zgd {s : BA} {S : St} (h : S.2 = 0 /\ S.1 < s.size) : (restF s S).toList.isEmpty = false := by
 rw [ByteArray.toList_eq, List.isEmpty_eq_false_iff];intro e
 have : (restF s S).size = 0 := by rw [<- z07, e]; rfl
 rw [z58, if_pos h.1] at this; omega
theorem Env.frX {X : Nat -> Prop} {w w' : World} {rb : Nat} (h : Env w rb) (hf : Fr X w w') (hX : ∀ b, X b -> rb <= b) : Env w' rb := by
 obtain ⟨W, he, hb, a⟩ := h;exact ⟨W, he, ⟨hf.os.trans hb.os, hf.tape.trans hb.tape, hf.output.trans hb.output, Nat.le_trans hb.size hf.size, fun k hk => (hf.block k (Nat.lt_of_lt_of_le hk hb.size) (fun hx => by have := hX k hx; omega)).trans (hb.block k hk)⟩, a⟩
theorem Gw.frC {e n : Nat} {B rb : Nat} {w w' : World} {v : Value} {xs : List Cs} {vs : List Value} (h : Gw e 2 (CCn n) B w v xs vs) (hf : Fr (· = rb) w w') (hrb : rb < B) : Gw e 2 (CCn n) B w' v xs vs := h.fr (kpC n) hf (fun b hb _ e => by omega)
theorem Gw.frP {e n : Nat} {B rb : Nat} {w w' : World} {v : Value} {xs : List Pt} {vs : List Value} (h : Gw e 4 (CPn n) B w v xs vs) (hf : Fr (· = rb) w w') (hrb : rb < B) : Gw e 4 (CPn n) B w' v xs vs := h.fr (kpP n) hf (fun b hb _ e => by omega)
theorem Gw.ownlt {α : Type} {e k : Nat} {C : World -> (Nat -> Prop) -> α -> List Value -> Prop} {B : Nat} {w : World} {v : Value} {xs : List α} {vs : List Value} (h : Gw e k C B w v xs vs) : ∀ b, v.ownBlock = some b -> b < w.heap.size := fun b hb => (h.own.lt b hb).2
theorem zit (f : Nat) (HP : ∀ g, g < f -> z6m g) : z7p f := by
 intro h o rb s S w hs ho hS hf hR hE;obtain ⟨i0, hi, aN, aO, aP⟩ := info_parts info44;have ah := hR.lt
 have aQ : Hid (∀ g, g + 1 <= f -> ∀ (S : St) (W : World), Wf s.data.toList S -> s.size - S.1 < g + 1 -> RdAt W rb s o S -> Env W rb -> Calls Tryz.prog 284 #[.pointer (some ⟨rb, 0, none⟩), .bool h] W (zey rb s o W (z16 s.data.toList (fun S => z0c s.data.toList g h (o + 1) [] S) o S))) :=
  hid (fun g hg S W h1 h2 h3 h4 => zfp g (HP g (by omega)) h o rb s S W hs (by omega) h1 h2 h3 h4)
 have H : Hid (Calls Tryz.prog 270 #[.pointer (some ⟨rb, 0, none⟩), .string ⟨#[32]⟩] w fun e w' => e = .returned (.string (ba (oneF s.data.toList [32] S).1)) /\ RdAt w' rb s o (oneF s.data.toList [32] S).2 /\ Fr (· = rb) w w') := hid (z91 rb s ⟨#[32]⟩ o S w hs hS hR);have I := hid (z2z (z1f s.data.toList [32] S) hS);have J : Hid ((oneF s.data.toList [32] S).1 = [32] -> (oneF s.data.toList [32] S).2.2 = 0) := hid zdj;have L := hid hf;have ai := hid hE
 generalize oneF s.data.toList [32] S = b0 at *
 clear hR hE hf hS HP;obtain ⟨q0, S0⟩ := b0;simp only at H I J L
 go_enter Tryz.func269, Tryz.ntmps269
 go_wp2_with fail
 refine H.out.mono ?_;rintro e w1 ⟨rfl, aj, M⟩;have aq := hid aj;have ar := hid M;have au := hid (ai.out.fr M);have aw : Hid (Gw 284 2 (CCn 0) w.heap.size w1 (.slice none 0 0) [] []) := hid (Gw.nil _ _ _ _ _);clear aj M H ai;go_wp2
 go_loopw [5, 6] (fun v q wr => ∃ (xs : List Cs) (vs : List Value) (a : Option Addr) (u k g : Nat) (bs : List UInt8) (T : St), v = .slice a xs.length u /\ q = .string (ba bs) /\ g <= f /\ Hid (Gw 284 2 (CCn k) w.heap.size wr (.slice a xs.length u) xs vs) /\ Hid (RdAt wr rb s o T) /\ Hid (Env wr rb) /\ Hid (Fr (· = rb) w wr) /\ Hid (Wf s.data.toList T) /\ Hid (bs = [32] -> T.2 = 0) /\ Hid (T.2 = 0 -> s.size - T.1 < g) /\ Hid (xs.length <= T.1 + (if T.2 = 0 then 0 else 1)) /\ Hid (z09 s.data.toList f h o [] (q0, S0) = z09 s.data.toList g h o xs (bs, T))) (fun _ _ wr => pl2 s.size rb wr)
 case atStart => exact ⟨[], [], none, 0, 0, f, q0, S0, rfl, rfl, Nat.le_refl _, aw, aq, au, ar, I, J, L, hid (Nat.zero_le _), hid rfl⟩
 case round =>
  obtain ⟨xs, vs, a, u, k, g, bs, T, rfl, rfl, aR, x, y, ax, N, O, aS, R, D, HQ⟩ := hrel;clear aw aq au ar I J L;have aT : w.heap.size <= wr.heap.size := N.out.size;have HM := hid (zdg (m := s.size) y.out);obtain ⟨n, HL⟩ := nmd (xs.length);rw [<- HL.out]
  by_cases hb : bs = [32]
  rotate_left
  ·have HE := hid (HQ.out.trans (zfn (f := g) (h := h) (o := o) (acc := xs) (b := (bs, T)) hb))
   have hB : (bs == [32]) = false := beq_eq_false_iff_ne.2 hb;clear hb;go_wp2;go_ret;rw [HE.out];exact ⟨a, u, k, by rw [HL.out]; rfl, x.out.done (kpC k), y.out, N.out⟩
  ·have h0 := aS.out hb
   obtain ⟨g', rfl⟩ : ∃ g', g = g' + 1 := ⟨g - 1, by have := R.out h0; omega⟩;have HE := hid (HQ.out.trans (cases_go (f := g') (h := h) (o := o) (acc := xs) (b := (bs, T)) hb));have hB : (bs == [32]) = true := beq_iff_eq.2 hb;have HC := hid (aQ.out g' aR T wr O.out (R.out h0) y.out ax.out);have d := hid h0;have U := hid (zaw (l := s.data.toList) (pf := fun S => z0c s.data.toList g' h (o + 1) [] S) (fun S => z2l _ _ _ _ _ _) o T);simp only at HE;clear hb h0 HQ y
   generalize z16 s.data.toList (fun S => z0c s.data.toList g' h (o + 1) [] S) o T = r at *
   obtain ⟨⟨key, kids⟩, V⟩ := r;simp only at HE U;have ay := hid (z2z U.out O.out)
   go_wp2_with fail
   refine HC.out.mono ?_;rintro e w2 ⟨v2, n2, he, A, Y, j⟩;simp only [Cs.key, Cs.kids] at he A Y;obtain ⟨a2, l2, p2, rfl, -⟩ := A.form;subst he;obtain ⟨K, HK⟩ : ∃ K, Hid (k <= K /\ n2 <= K) := ⟨max k n2, hid ⟨Nat.le_max_left _ _, Nat.le_max_right _ _⟩⟩;have az : Hid (SlP w2 (Fsh wr.heap.size w2) K (.slice a2 l2 p2) kids) := hid (A.le HK.out.2);have Z := hid Y;have aA := hid j;have i := hid ((x.out.frC j ah).leC HK.out.1);have aa := hid x.out.ownlt;have aB := hid (ax.out.fr j);rw [<- HL.out] at i aa;have c := i.out.own;rw [<- HL.out] at c;have p := hid c;have aX : wr.heap.size <= w2.heap.size := j.size
   have aZ : n <= 2001 := by have h1 := D.out; have h2 := z3j O.out; rw [d.out, if_pos rfl, <- HL.out] at h1; omega
   clear A Y j HC c
   go_wp2_with (at_builtin; refine wpList_append_lies _ rfl _ _ 261 rfl w.heap.size 284 i0 _ 2 40 Tryz.underlying261 hi aN aO aP rfl (by decide) _ _ _ rfl (p.out.alloc _) _ 1 1 [.string key, .slice a2 l2 p2] rfl rfl (z1v _ #[.string key, .slice a2 l2 p2] _ rfl) (by simp [Value.oneCell']) (by decide) (by unfold maxLen; omega) (by omega) (by simp; omega) (w2.heap.size + 1) (by simp) ?_; intro g5 c5 w5 hown5 hgrow5 hg5 _; have aC := hid hown5; have t := hid hgrow5; have E := hid hg5; clear hown5 hgrow5 hg5)
   have aD := Z.out.lt
   have F : Hid (Gw 284 2 (CCn K) w.heap.size w5 (.slice (some ⟨g5, 0, none⟩) (n + 1) c5) (xs ++ [.mk key kids]) (vs ++ [.string key, .slice a2 l2 p2])) := hid
    (i.out.push (kpC K) HL.out (CC.mk az.out) aT aa.out rfl t.out aC.out (by rcases E.out with z | z; exact .inl z; right; rw [z]; omega))
   have aE : Hid (RdAt w5 rb s o V) := hid (Z.out.keep ((t.out.block rb (by rw [World.size_alloc]; omega) (fun e => by have := (p.out.lt rb e.symm).1; omega)).trans (Below.heap_alloc _ _ _ aD)));have aF : Hid (Fr (· = rb) w w5) := hid (((N.out.trans aA.out).alloc _).grown t.out (fun g hg => .inl (p.out.lt g hg).1));have aG : Hid (Env w5 rb) := hid (aB.out.frX (X := fun b => rb <= b) (((Fr.refl _ w2).alloc _).grown t.out (fun g hg => .inr (by have := (p.out.lt g hg).1; omega))) (fun _ h => h));have af : Hid (Calls Tryz.prog 270 #[.pointer (some ⟨rb, 0, none⟩), .string ⟨#[32, 125]⟩] w5 fun e w' => e = .returned (.string (ba (oneF s.data.toList [32, 125] V).1)) /\ RdAt w' rb s o (oneF s.data.toList [32, 125] V).2 /\ Fr (· = rb) w5 w') := hid (z91 rb s ⟨#[32, 125]⟩ o V w5 hs ay.out aE.out);have ag := hid (z2z (z1f s.data.toList [32, 125] V) ay.out);have B : Hid ((oneF s.data.toList [32, 125] V).2.2 = 0 -> V.1 + 1 = (oneF s.data.toList [32, 125] V).2.1) := hid zc7;have G := hid (z1f s.data.toList [32, 125] V).1;have aH : Hid ((oneF s.data.toList [32, 125] V).1 = [32] -> (oneF s.data.toList [32, 125] V).2.2 = 0) := hid zdj;clear Z aA aB p t aC E az aa i x
   generalize oneF s.data.toList [32, 125] V = b6 at *
   obtain ⟨q6, T6⟩ := b6;simp only at af ag B G aH
   go_wp2_with fail
   refine af.out.mono ?_;rintro e w6 ⟨rfl, aI, C⟩;have aJ := hid aI;have aU := hid (aF.out.trans C);have aV := hid (aG.out.fr C);have aK := hid (F.out.frC C ah);clear aI C af aE aF aG F;have hT := U.out.1;have bc := R.out d.out;have aM := D.out;rw [d.out, if_pos rfl] at aM;have bd := z3j ag.out;have aY := G.out;have aW := d.out;go_wp2;go_roundw
   case rel => exact ⟨_, _, some ⟨g5, 0, none⟩, c5, K, g', q6, T6, by rw [List.length_append, <- HL.out]; rfl, rfl, by omega, by rw [List.length_append, <- HL.out]; exact aK, aJ, aV, aU, ag, aH, hid (fun e => by have := B.out e; omega), hid (by
    rw [List.length_append]
    by_cases e : T6.2 = 0
    ·rw [if_pos e]; have := B.out e; simp only [List.length_cons, List.length_nil]; omega
    ·rw [if_neg e]; simp only [List.length_cons, List.length_nil]; omega), HE⟩
   case measure =>
    have h1 := zdg (m := s.size) aJ.out;rw [HM.out, h1, if_pos aW]
    by_cases e : T6.2 = 0
    ·rw [if_pos e]; have := B.out e; omega
    ·rw [if_neg e]; omega
theorem zgi (f : Nat) (HC : ∀ g, g < f -> z7p g) : z6m f := by
 intro h o rb s S w hs ho hS hf hR hE;obtain ⟨i0, hi, aP, aQ, aR⟩ := info_parts zhh;have A := hR.lt
 have aS : Hid (∀ g, g + 1 <= f -> ∀ (S : St) (W : World), Wf s.data.toList S -> s.size - S.1 < g + 1 -> RdAt W rb s o S -> Env W rb -> Calls Tryz.prog 220 #[.pointer (some ⟨rb, 0, none⟩), .bool h] W (z9p rb s o W (partG s.data.toList (fun h b => z09 s.data.toList g h o [] b) h S))) :=
  hid (fun g hg S W h1 h2 h3 h4 => z5b g (HC g (by omega)) h o rb s S W hs (by omega) h1 h2 h3 h4)
 have aw := hid hR;have ax := hid hE;have ay := hid hS;have aa := hid hf;have az : Hid (Gw 263 4 (CPn 0) w.heap.size w (.slice none 0 0) [] []) := hid (Gw.nil _ _ _ _ _);clear hR hE hf hS HC
 go_enter Tryz.func189, Tryz.ntmps189
 go_wp2
 go_loopw [5] (fun v wr => ∃ (xs : List Pt) (vs : List Value) (a : Option Addr) (F k g : Nat) (T : St), v = .slice a xs.length F /\ g <= f /\ Hid (Gw 263 4 (CPn k) w.heap.size wr (.slice a xs.length F) xs vs) /\ Hid (RdAt wr rb s o T) /\ Hid (Env wr rb) /\ Hid (Fr (· = rb) w wr) /\ Hid (Wf s.data.toList T) /\ Hid (T.2 = 0 -> s.size - T.1 < g) /\ Hid (xs.length <= T.1 + (if T.2 = 0 then 0 else 1)) /\ Hid (z0c s.data.toList f h o [] S = z0c s.data.toList g h o xs T)) (fun _ wr => pl2 s.size rb wr)
 case atStart => exact ⟨[], [], none, 0, 0, f, S, rfl, Nat.le_refl _, az, aw, ax, hid (Fr.refl _ _), ay, aa, hid (Nat.zero_le _), hid rfl⟩
 case round =>
  obtain ⟨xs, vs, a, F, k, g, T, rfl, aT, N, B, aA, G, C, ah, af, HQ⟩ := hrel;clear az aw ax ay aa;have aY : w.heap.size <= wr.heap.size := G.out.size;have HM := hid (zdg (m := s.size) B.out);have O := hid (z30 rb s o T wr hs C.out B.out);obtain ⟨n, HL⟩ := nmd (xs.length);rw [<- HL.out]
  by_cases hlv : T.2 = 0 /\ T.1 < s.size
  rotate_left
  ·have HE := hid (HQ.out.trans (z84 (f := g) (h := h) (o := o) (acc := xs) (fun e => hlv ⟨e.1, by have := e.2.1; rw [z07] at this; exact this⟩)))
   rw [rest_eq C.out hlv] at O;clear hlv
   go_wp2_with fail
   refine O.out.mono ?_;rintro e w2 ⟨rfl, c⟩;have j := hid (B.out.same c);have D := hid (G.out.trans (Fr.of_same c));have i := hid (N.out.frP (rb := rb) (Fr.of_same c) A);clear c;go_wp2;go_ret;rw [HE.out];exact ⟨a, F, k, by rw [HL.out]; rfl, i.out.done (kpP k), j.out, D.out⟩
  ·have aZ := zgd (s := s) (S := T) hlv
   have E : Hid (∀ W, RdAt W rb s o T -> Calls Tryz.prog 219 #[.pointer (some ⟨rb, 0, none⟩), .string ⟨#[125]⟩] W fun e w' => e = .returned (.bool (nextF s.data.toList [125] T)) /\ Same W w') := hid (fun W hW => z2k rb s ⟨#[125]⟩ o T W hs C.out (by decide) hW)
   generalize restF s T = R at *
   cases hnx : nextF s.data.toList [125] T with
   | true =>
    have HE := hid (HQ.out.trans (z84 (f := g) (h := h) (o := o) (acc := xs) (fun e => by have := e.2.2; rw [hnx] at this; cases this)));rw [hnx] at E;clear hlv hnx
    go_wp2_with fail
    refine O.out.mono ?_;rintro e w2 ⟨rfl, c⟩;have j := hid (B.out.same c);have D := hid (G.out.trans (Fr.of_same c));have i := hid (N.out.frP (rb := rb) (Fr.of_same c) A);have U := hid (E.out w2 j.out);clear c E
    go_wp2_with fail
    refine U.out.mono ?_;rintro e w3 ⟨rfl, d⟩;have Y := hid (j.out.same d);have H := hid (D.out.trans (Fr.of_same d));have p := hid (i.out.frP (rb := rb) (Fr.of_same d) A);clear d;go_wp2;go_ret;rw [HE.out];exact ⟨a, F, k, by rw [HL.out]; rfl, p.out.done (kpP k), Y.out, H.out⟩
   | false =>
    obtain ⟨h0, aB⟩ := hlv
    have I : T.1 < s.data.toList.length := by rw [z07]; exact aB
    obtain ⟨g', rfl⟩ : ∃ g', g = g' + 1 := ⟨g - 1, by have := ah.out h0; omega⟩;have HE := hid (HQ.out.trans (parts_go (f := g') (h := h) (o := o) (acc := xs) ⟨h0, I, hnx⟩));have u := hid (z8x (cf := fun h b => z09 s.data.toList g' h o [] b) (fun h b => z3m _ _ _ _ _ _) (h := h) h0 I hnx);have ai := hid (zhq (l := s.data.toList) (cf := fun h b => z09 s.data.toList g' h o [] b) (fun h b => z3m _ _ _ _ _ _) h T);have aC := hid (fun W h3 h4 => aS.out g' aT T W C.out (ah.out h0) h3 h4);have x := hid h0;rw [hnx] at E;clear h0 aB I hnx HQ
    go_wp2_with fail
    refine O.out.mono ?_;rintro e w2 ⟨rfl, c⟩;have j := hid (B.out.same c);have D := hid (G.out.trans (Fr.of_same c));have aD := hid (aA.out.same c);have i := hid (N.out.frP (rb := rb) (Fr.of_same c) A);have U := hid (E.out w2 j.out);clear c E B G aA N
    go_wp2_with fail
    refine U.out.mono ?_;rintro e w3 ⟨rfl, d⟩;have Y := hid (j.out.same d);have H := hid (D.out.trans (Fr.of_same d));have aj := hid (aD.out.same d);have p := hid (i.out.frP (rb := rb) (Fr.of_same d) A);have aE := hid (aC.out w3 Y.out aj.out);clear d U j D aD i aC Y
    generalize partG s.data.toList (fun h b => z09 s.data.toList g' h o [] b) h T = r at *
    obtain ⟨⟨pk, pt, pn, cs⟩, V⟩ := r;simp only at HE ai u;have aF := hid (z2z ai.out C.out)
    go_wp2_with fail
    refine aE.out.mono ?_;rintro e w4 ⟨v2, n2, he, Z, aq, J⟩;simp only [Pt.k, Pt.t, Pt.n, Pt.cs] at he Z aq;obtain ⟨a2, l2, p2, rfl, -⟩ := Z.form;subst he;obtain ⟨K, HK⟩ : ∃ K, Hid (k <= K + 1 /\ n2 <= K) := ⟨max k n2, hid ⟨by omega, Nat.le_max_right _ _⟩⟩;have aG : Hid (SlC w4 (Fsh w3.heap.size w4) K (.slice a2 l2 p2) cs) := hid (Z.le HK.out.2);have ar := hid aq;have aH := hid (H.out.trans J);have aI := hid (aj.out.fr J);have y := hid ((p.out.frP J A).leP HK.out.1);have au := hid p.out.ownlt;rw [<- HL.out] at y au;have q := y.out.own;rw [<- HL.out] at q;have L := hid q;have bc : w3.heap.size <= w4.heap.size := J.size;have aU : w.heap.size <= w3.heap.size := H.out.size
    have bd : n <= 2001 := by have h1 := af.out; have h2 := z3j C.out; rw [x.out, if_pos rfl, <- HL.out] at h1; omega
    clear Z aq J aE q H aj p
    go_wp2_with (at_builtin; refine wpList_append_lies _ rfl _ _ 199 rfl w.heap.size 263 i0 _ 4 64 Tryz.underlying199 hi aP aQ aR rfl (by decide) _ _ _ rfl (L.out.alloc _) _ 1 1 [.int .i64 pk, .string pt, .string pn, .slice a2 l2 p2] rfl rfl (z1v _ #[.int .i64 pk, .string pt, .string pn, .slice a2 l2 p2] _ rfl) (by simp [Value.oneCell']) (by decide) (by unfold maxLen; omega) (by omega) (by simp; omega) (w4.heap.size + 1) (by simp) ?_; intro g5 c5 w5 hown5 hgrow5 hg5 _; have aJ := hid hown5; have M := hid hgrow5; have ag := hid hg5; clear hown5 hgrow5 hg5)
    have aK := ar.out.lt
    have aM : Hid (Gw 263 4 (CPn (K + 1)) w.heap.size w5 (.slice (some ⟨g5, 0, none⟩) (n + 1) c5) (xs ++ [.mk pk pt pn cs]) (vs ++ [.int .i64 pk, .string pt, .string pn, .slice a2 l2 p2])) := hid
     (y.out.push (kpP (K + 1)) HL.out (CP.mk aG.out) aU au.out rfl M.out aJ.out (by rcases ag.out with z | z; exact .inl z; right; rw [z]; omega))
    have aN : Hid (RdAt w5 rb s o V) := hid (ar.out.keep ((M.out.block rb (by rw [World.size_alloc]; omega) (fun e => by have := (L.out.lt rb e.symm).1; omega)).trans (Below.heap_alloc _ _ _ aK)));have aV : Hid (Fr (· = rb) w w5) := hid ((aH.out.alloc _).grown M.out (fun g hg => .inl (L.out.lt g hg).1));have aW : Hid (Env w5 rb) := hid (aI.out.frX (X := fun b => rb <= b) (((Fr.refl _ w4).alloc _).grown M.out (fun g hg => .inr (by have := (L.out.lt g hg).1; omega))) (fun _ h => h));clear ar aH aI L M aJ ag aG au y;have hT := ai.out.1;have bf := ah.out x.out;have aO := af.out;rw [x.out, if_pos rfl] at aO;have bg := z3j aF.out;have aX := x.out;go_roundw
    case rel => exact ⟨_, _, some ⟨g5, 0, none⟩, c5, K + 1, g', V, by rw [List.length_append, <- HL.out]; rfl, by omega, by rw [List.length_append, <- HL.out]; exact aM, aN, aW, aV, aF, hid (fun e => by rcases u.out with z | z; exact absurd e z; omega), hid (by
     rw [List.length_append]
     by_cases e : V.2 = 0
     ·rw [if_pos e]; rcases u.out with z | z
      ·exact absurd e z
      ·simp only [List.length_cons, List.length_nil]; omega
     ·rw [if_neg e]; simp only [List.length_cons, List.length_nil]; omega), HE⟩
    case measure =>
     have h1 := zdg (m := s.size) aN.out;rw [HM.out, h1, if_pos aX]
     by_cases e : V.2 = 0
     ·rw [if_pos e]; rcases u.out with z | z
      ·exact absurd e z
      ·omega
     ·rw [if_neg e]; omega
theorem ziz : ∀ f, z7p f /\ z6m f := by
 intro f
 induction f using Nat.strongRecOn with
 | _ f ih => exact ⟨zit f (fun g hg => (ih g hg).2), zgi f (fun g hg => (ih g hg).1)⟩
end Go.Proofs.YtdkkkeoicekdgaaGreatDoor

end
