/- Package model: a state whose catalog is changed. -/
import Derived.Test.YtdkkkeoicekdgaaGreatDoorZEMst
import Derived.Test.YtdkkkeoicekdgaaGreatDoorZEg24

section

namespace Go.Proofs.YtdkkkeoicekdgaaGreatDoor.Md
set_option maxHeartbeats 6400000
set_option maxRecDepth 100000
open Go.Lib (hid)
open Go.RowKit Go.Proofs.YtdkkkeoicekdgaaGreatDoor Go.Proofs.YtdkkkeoicekdgaaGreatDoor.Ca
theorem fit_may {x : Ent} (h : mayB x = true) : FitE x := by
 obtain ⟨h1, h2, h3⟩ := may_tx h;exact ⟨by omega, by omega, by omega⟩
theorem z6n {l : List Ent} (h : Rgt l) : ∀ x, x ∈ l -> FitE x := fun x hx => fit_may (h.may x hx)
theorem chg_bad {v : Int} {l : List Ent} {cs : List Chg} {k : Nat} (h : z17 l cs = .error k) : chgF v l cs = .error k := by unfold chgF; rw [h]
theorem chg_long {v : Int} {l l' : List Ent} {cs : List Chg} (h : z17 l cs = .ok l') (h2 : (z0m l').2 ≠ 0) : chgF v l cs = .error 2 := by unfold chgF; rw [h]; simp only; rw [if_pos h2]
theorem chg_full {v : Int} {l l' : List Ent} {cs : List Chg} (h : z17 l cs = .ok l') (h2 : (z0m l').2 = 0) (h3 : v = 1073741824) : chgF v l cs = .error 130 := by unfold chgF; rw [h]; simp only; rw [if_neg (by simpa using h2), if_pos h3]
theorem chg_yes {v : Int} {l l' : List Ent} {cs : List Chg} (h : z17 l cs = .ok l') (h2 : (z0m l').2 = 0) (h3 : ¬ v = 1073741824) : chgF v l cs = .ok l' := by unfold chgF; rw [h]; simp only; rw [if_neg (by simpa using h2), if_neg h3]
def z1z (m : Mdl) (ch : List Chg) (w : World) (e : Ending) (w' : World) : Prop := ∃ ae ce ac cc M, StAt w' (match chgF m.vr m.es ch with | .error _ => m | .ok l => ⟨m.vr + 1, l, m.cs⟩) ae ce ac cc M /\ Below w.heap.size w w' /\
 e = .returned (.tuple #[.agg (stC (match chgF m.vr m.es ch with | .error _ => m | .ok l => ⟨m.vr + 1, l, m.cs⟩ : Mdl).vr (.slice ae (match chgF m.vr m.es ch with | .error _ => m | .ok l => ⟨m.vr + 1, l, m.cs⟩ : Mdl).es.length ce) (.slice ac m.cs.length cc) M), .int .i64 (match chgF m.vr m.es ch with | .error k => (k : Int) | .ok _ => 0)])
theorem z1z.no {m : Mdl} {ch : List Chg} {w w' : World} {k : Nat} {ae : Option Addr} {ce : Nat} {ac : Option Addr} {cc M : Nat} (h : chgF m.vr m.es ch = .error k) (hs : StAt w' m ae ce ac cc M) (hb : Below w.heap.size w w') :
  z1z m ch w (.returned (.tuple #[.agg (stC m.vr (.slice ae m.es.length ce) (.slice ac m.cs.length cc) M), .int .i64 k])) w' := ⟨ae, ce, ac, cc, M, by rw [h]; exact hs, hb, by rw [h]⟩
theorem z1z.yes {m : Mdl} {ch : List Chg} {w w' : World} {l : List Ent} {ae : Option Addr} {ce : Nat} {ac : Option Addr} {cc M : Nat} (h : chgF m.vr m.es ch = .ok l) (hs : StAt w' ⟨m.vr + 1, l, m.cs⟩ ae ce ac cc M) (hb : Below w.heap.size w w') :
  z1z m ch w (.returned (.tuple #[.agg (stC (m.vr + 1) (.slice ae l.length ce) (.slice ac m.cs.length cc) M), .int .i64 0])) w' := ⟨ae, ce, ac, cc, M, by rw [h]; exact hs, hb, by rw [h]⟩
abbrev putS (w : World) (R : Nat) (v : Int) (ve vc : Value) (M : Nat) : World := (((w.setCell ⟨R, 0, none⟩ (.int .i64 v)).setCell ⟨R, 1, none⟩ ve).setCell ⟨R, 2, none⟩ vc).setCell ⟨R, 3, none⟩ (.map (some M))
theorem z3k {w : World} {R : Nat} {t : TypeId} {x0 x1 x2 x3 : Value} (h : Row w R t [x0, x1, x2, x3]) (v : Int) (ve vc : Value) (M : Nat) : Row (putS w R v ve vc M) R t [.int .i64 v, ve, vc, .map (some M)] := (((h.set 0 (.int .i64 v)).set 1 ve).set 2 vc).set 3 (.map (some M))
theorem z14 (w : World) (R : Nat) (v : Int) (ve vc : Value) (M : Nat) : But R w (putS w R v ve vc M) := ((((But.refl _ _).set _ _).set _ _).set _ _).set _ _
structure StLt (w : World) (B : Nat) (m : Mdl) (ae : Option Addr) (ce : Nat) (ac : Option Addr) (cc M : Nat) : Prop where
 es : SlE w (fun b => b < B) (.slice ae m.es.length ce) m.es
 cs : SlL w (fun b => b < B) (.slice ac m.cs.length cc) m.cs
 lt : M < B
 nil : ac = none -> cc = 0
 map : ∃ n D, OMm w M n D /\ GoodK m.cs m.cs.length D
theorem StAt.lt {w : World} {m : Mdl} {ae : Option Addr} {ce : Nat} {ac : Option Addr} {cc M : Nat} (h : StAt w m ae ce ac cc M) : StLt w w.heap.size m ae ce ac cc M := by
 obtain ⟨n, D, h1, h2⟩ := h.map;exact ⟨h.es, h.cs, h1.lt, h.nil, n, D, h1, h2⟩
theorem StLt.blw {w w' : World} {B : Nat} {m : Mdl} {ae : Option Addr} {ce : Nat} {ac : Option Addr} {cc M : Nat} (h : StLt w B m ae ce ac cc M) (hb : Below B w w') : StLt w' B m ae ce ac cc M := by
 obtain ⟨n, D, h1, h2⟩ := h.map;exact ⟨Sl.keep h.es (fun b hb2 => hb.block b hb2) (fun _ h => h) (fun _ _ h => h), Sl.keep h.cs (fun b hb2 => hb.block b hb2) (fun _ h => h) (fun _ _ h => h), h.lt, h.nil, n, D, z1b h1 (hb.block _ h.lt), h2⟩
theorem StLt.at_ {w : World} {B : Nat} {m : Mdl} {ae : Option Addr} {ce : Nat} {ac : Option Addr} {cc M : Nat} (h : StLt w B m ae ce ac cc M) (hB : B <= w.heap.size) : StAt w m ae ce ac cc M := by
 obtain ⟨n, D, h1, h2⟩ := h.map;exact ⟨Sl.keep h.es (fun _ _ => rfl) (fun _ h => Nat.lt_of_lt_of_le h hB) (fun _ _ h => h), Sl.keep h.cs (fun _ _ => rfl) (fun _ h => Nat.lt_of_lt_of_le h hB) (fun _ _ h => h), h.nil, n, D, h1, h2⟩
theorem z2t {w : World} {S : Nat -> Prop} {v : Value} {xs : List Ent} {A : Nat} {t : TypeId} {cs : List Value} (h : SlE w S v xs) (hA : Row w A t cs) (hn : ∀ (i : Nat) s, cs[i]? ≠ some (.string s)) : SlE w (fun b => S b /\ b ≠ A) v xs := by
 obtain ⟨a, g, hv, h1, h2, h3⟩ := h;refine ⟨a, g, hv, h1, h2, fun hne => ?_⟩;obtain ⟨b, c, ha, hb, f⟩ := h3 hne;refine ⟨b, c, ha, ⟨hb, fun e => ?_⟩, f⟩;subst e;have hx := (At.e (f 0 (xs[0]'(List.length_pos_iff.2 hne)) (List.getElem?_eq_getElem _))).1
 have d : w.cell? ⟨b, c + 0 * 3, none⟩ = cs[c + 0 * 3]? := by
  have hh : w.heap[b]? = some (.cells cs.toArray t (0, 0)) := hA
  simp [World.cell?, hh]
 rw [d] at hx;exact hn _ _ hx
theorem z7b {x0 x1 x2 x3 : Value} (h0 : ∀ s, x0 ≠ .string s) (h1 : ∀ s, x1 ≠ .string s) (h2 : ∀ s, x2 ≠ .string s) (h3 : ∀ s, x3 ≠ .string s) : ∀ (i : Nat) s, [x0, x1, x2, x3][i]? ≠ some (.string s)
 | 0, s => fun e => h0 s (Option.some.inj e)
 | 1, s => fun e => h1 s (Option.some.inj e)
 | 2, s => fun e => h2 s (Option.some.inj e)
 | 3, s => fun e => h3 s (Option.some.inj e)
 | _ + 4, s => fun e => by simp at e
theorem zcz (w : World) (m : Mdl) (ae : Option Addr) (ce : Nat) (ac : Option Addr) (cc M : Nat) (b : Option Addr) (capc : Nat) (ch : List Chg) (hst : StAt w m ae ce ac cc M) (hC : SlH w (Old w) (.slice b ch.length capc) ch) (hFC : ∀ c, c ∈ ch -> FitE c.e) (hR : RgtM m) (hE : EnvC w) :
  Calls Tryz.prog 82 #[.agg (stC m.vr (.slice ae m.es.length ce) (.slice ac m.cs.length cc) M), .slice b ch.length capc] w (z1z m ch w) := by
 have C := hid (z10 hR.es);obtain ⟨v, es, cs⟩ := m;simp only at hst C ⊢;have L := hR.lo;have N := hR.hi;simp only at L N;have O := hid hst.lt;have y := hid (fun W (h : Below w.heap.size w W) => zj2 W ae ce es b capc ch (hst.es.old h) (hC.old h) (z6n C.out) hFC (hE.below h));have R := hid (fun W (h : Below w.heap.size w W) a c l hl hr => zbf W a c l hl (z6n hr) (hE.below h));obtain ⟨r, o⟩ := nmd (z17 es ch);rw [<- o.out] at y;have D : Hid (∀ k w', chgF v es ch = .error k -> StAt w' ⟨v, es, cs⟩ ae ce ac cc M -> Below w.heap.size w w' -> z1z ⟨v, es, cs⟩ ch w (.returned (.tuple #[.agg (stC v (.slice ae es.length ce) (.slice ac cs.length cc) M), .int .i64 k])) w') := hid (fun k w' h1 h2 h3 => z1z.no (m := ⟨v, es, cs⟩) h1 h2 h3);have G : Hid (∀ l a c w', chgF v es ch = .ok l -> StAt w' ⟨v + 1, l, cs⟩ a c ac cc M -> Below w.heap.size w w' -> z1z ⟨v, es, cs⟩ ch w (.returned (.tuple #[.agg (stC (v + 1) (.slice a l.length c) (.slice ac cs.length cc) M), .int .i64 0])) w') := hid (fun l a c w' h1 h2 h3 => z1z.yes (m := ⟨v, es, cs⟩) h1 h2 h3);obtain ⟨Le, af⟩ := nmd (es.length);obtain ⟨Lc, ag⟩ := nmd (cs.length);obtain ⟨Lh, ah⟩ := nmd (ch.length);rw [<- af.out] at y D ⊢;rw [<- ag.out] at D G ⊢;rw [<- ah.out] at y ⊢;clear hst hC hFC hR hE;obtain ⟨W1, p⟩ := nmd ((w.alloc (.cells (stC v (.slice ae Le ce) (.slice ac Lc cc) M) 73)).alloc (.cells #[.int .i64 0, .slice none 0 0, .slice none 0 0, .map none] 73));have aw : Hid (W1.heap.size = w.heap.size + 2) := hid (by rw [p.out]; simp);have E : Hid (Below w.heap.size w W1) := hid (by rw [p.out]; exact z3s w _ _)
 have H : Hid (Row W1 w.heap.size 73 [.int .i64 v, .slice ae Le ce, .slice ac Lc cc, .map (some M)]) := hid (by rw [p.out]; exact (z02 w (stC v (.slice ae Le ce) (.slice ac Lc cc) M) _).alloc _)
 have T : Hid (Row W1 (w.heap.size + 1) 73 [.int .i64 0, .slice none 0 0, .slice none 0 0, .map none]) := hid (by
  rw [p.out];have h := z02 (w.alloc (.cells (stC v (.slice ae Le ce) (.slice ac Lc cc) M) 73)) #[.int .i64 0, .slice none 0 0, .slice none 0 0, .map none] 73
  rwa [World.size_alloc] at h)
 have F := hid (y.out W1 E.out)
 have V : ((w.alloc (.cells (stC v (.slice ae Le ce) (.slice ac Lc cc) M) 73)).alloc (.cells #[.int .i64 0, .slice none 0 0, .slice none 0 0, .map none] 73)).cell? ⟨w.heap.size, 1, none⟩ = some (.slice ae Le ce) := by rw [<- p.out]; exact H.out.cell rfl
 have d : Hid (∀ W, Below W1.heap.size W1 W -> (W.cell? ⟨w.heap.size, 0, none⟩ = some (.int .i64 v) /\ W.cell? ⟨w.heap.size, 1, none⟩ = some (.slice ae Le ce) /\ W.cell? ⟨w.heap.size, 2, none⟩ = some (.slice ac Lc cc) /\ W.cell? ⟨w.heap.size, 3, none⟩ = some (.map (some M))) /\
   (W.frozen? ⟨w.heap.size + 1, 0, none⟩ = false /\ W.frozen? ⟨w.heap.size + 1, 1, none⟩ = false /\ W.frozen? ⟨w.heap.size + 1, 2, none⟩ = false /\ W.frozen? ⟨w.heap.size + 1, 3, none⟩ = false) /\
   (W.cell? ⟨w.heap.size + 1, 0, none⟩ = some (.int .i64 0) /\ W.cell? ⟨w.heap.size + 1, 1, none⟩ = some (.slice none 0 0) /\ W.cell? ⟨w.heap.size + 1, 2, none⟩ = some (.slice none 0 0) /\ W.cell? ⟨w.heap.size + 1, 3, none⟩ = some (.map none)) /\
   ((putS W (w.heap.size + 1) v (.slice ae Le ce) (.slice ac Lc cc) M).cell? ⟨w.heap.size + 1, 0, none⟩ = some (.int .i64 v) /\ (putS W (w.heap.size + 1) v (.slice ae Le ce) (.slice ac Lc cc) M).cell? ⟨w.heap.size + 1, 1, none⟩ = some (.slice ae Le ce) /\ (putS W (w.heap.size + 1) v (.slice ae Le ce) (.slice ac Lc cc) M).cell? ⟨w.heap.size + 1, 2, none⟩ = some (.slice ac Lc cc) /\ (putS W (w.heap.size + 1) v (.slice ae Le ce) (.slice ac Lc cc) M).cell? ⟨w.heap.size + 1, 3, none⟩ = some (.map (some M))) /\
   ∀ k, chgF v es ch = .error k -> z1z ⟨v, es, cs⟩ ch w (.returned (.tuple #[.agg (stC v (.slice ae Le ce) (.slice ac Lc cc) M), .int .i64 k])) (putS W (w.heap.size + 1) v (.slice ae Le ce) (.slice ac Lc cc) M)) := hid (fun W h => by
  have ra := H.out.below h;have rb := T.out.below h;have rp := z3k rb v (.slice ae Le ce) (.slice ac Lc cc) M;have s : Below w.heap.size w (putS W (w.heap.size + 1) v (.slice ae Le ce) (.slice ac Lc cc) M) := (z00 E.out h).trans ((z14 W _ _ _ _ _).below (B := w.heap.size) (by omega))
  exact ⟨⟨ra.cell rfl, ra.cell rfl, ra.cell rfl, ra.cell rfl⟩, ⟨rb.thaw _, rb.thaw _, rb.thaw _, rb.thaw _⟩, ⟨rb.cell rfl, rb.cell rfl, rb.cell rfl, rb.cell rfl⟩, ⟨rp.cell rfl, rp.cell rfl, rp.cell rfl, rp.cell rfl⟩, fun k hk => D.out k _ hk ((O.out.blw s).at_ s.size) s⟩)
 clear D y
 go_enter Tryz.func82, Tryz.ntmps82
 cases r with
 | error k =>
  have t := hid (chg_bad (v := v) o.out.symm);have ax := ne0 (k := k) (by have := z62 C.out o.out.symm; omega)
  go_wp2_with fail
  rw [<- p.out];refine F.out.mono ?_;rintro e w3 ⟨u, rfl⟩;obtain ⟨⟨a0, a1, a2, a3⟩, ⟨t0, t1, t2, t3⟩, ⟨e0, e1, e2, e3⟩, ⟨f0, f1, f2, f3⟩, f⟩ := d.out w3 u;have i := hid (f k t.out);clear f u F V d;go_wp2;exact bodyPost_ret (v := .tuple #[.agg (stC v (.slice ae Le ce) (.slice ac Lc cc) M), .int .i64 k]) (by simp [results, Tryz.results82, go_sem, f0, f1, f2, f3]) rfl i.out
 | ok l =>
  have X := hid (z8l C.out o.out.symm)
  go_wp2_with fail
  rw [<- p.out];refine F.out.mono ?_;rintro e w3 ⟨u, al, cl, rfl, I⟩;have x := hid u;have ai := hid I;have n := hid (R.out w3 (z00 E.out u) al cl l I X.out);obtain ⟨Ll, J⟩ := nmd (l.length);obtain ⟨q, HQ⟩ := nmd (z0m l);rw [<- J.out, <- HQ.out] at n;rw [<- J.out];obtain ⟨qs, qe⟩ := q;simp only at n;clear u I F V R
  by_cases hq : qe = 0
  ·subst hq
   have Y : Hid ((z0m l).2 = 0) := hid (by rw [<- HQ.out])
   by_cases hv : v = 1073741824
   ·have t := hid (chg_full (v := v) o.out.symm Y.out hv)
    have aj : (v == 1073741824) = true := by rw [beq_iff_eq]; exact hv
    clear hv L N
    go_wp2_with fail
    refine n.out.mono ?_;rintro e w4 ⟨rfl, g⟩;obtain ⟨⟨a0, a1, a2, a3⟩, ⟨t0, t1, t2, t3⟩, ⟨e0, e1, e2, e3⟩, ⟨f0, f1, f2, f3⟩, f⟩ := d.out w4 (z00 x.out g);have i := hid (f 130 t.out);clear f g n d;go_wp2;exact bodyPost_ret (v := .tuple #[.agg (stC v (.slice ae Le ce) (.slice ac Lc cc) M), .int .i64 130]) (by simp [results, Tryz.results82, go_sem, f0, f1, f2, f3]) rfl i.out
   ·have t := hid (chg_yes (v := v) o.out.symm Y.out hv)
    have aj : (v == 1073741824) = false := by rw [beq_eq_false_iff_ne]; exact hv
    clear hv
    go_wp2_with fail
    refine n.out.mono ?_;rintro e w4 ⟨rfl, g⟩;obtain ⟨⟨a0, a1, a2, a3⟩, ⟨t0, t1, t2, t3⟩, ⟨e0, e1, e2, e3⟩, -, -⟩ := d.out w4 (z00 x.out g);have RA := H.out.below (z00 x.out g);have z := (RA.set 1 (.slice al Ll cl)).set 0 (.int .i64 (v + 1));have u0 := RA.thaw 0;have u1 := RA.thaw 1;have aq : Hid (∃ U, U = (w4.setCell ⟨w.heap.size, 1, none⟩ (.slice al Ll cl)).setCell ⟨w.heap.size, 0, none⟩ (.int .i64 (v + 1))) := hid ⟨_, rfl⟩;have g0 : (w4.setCell ⟨w.heap.size, 1, none⟩ (.slice al Ll cl)).cell? ⟨w.heap.size, 0, none⟩ = some (.int .i64 v) := (RA.set 1 (.slice al Ll cl)).cell rfl;have v0 : (w4.setCell ⟨w.heap.size, 1, none⟩ (.slice al Ll cl)).frozen? ⟨w.heap.size, 0, none⟩ = false := (RA.set 1 (.slice al Ll cl)).thaw 0;have x0 := z.c0;have x1 := z.c1;have x2 := z.c2;have x3 := z.c3;have A : But w.heap.size w4 ((w4.setCell ⟨w.heap.size, 1, none⟩ (.slice al Ll cl)).setCell ⟨w.heap.size, 0, none⟩ (.int .i64 (v + 1))) := ((But.refl _ _).set _ _).set _ _;have RB := T.out.below (z00 x.out g);have j := RB.keep (A.block (w.heap.size + 1) (by omega));have y0 := j.thaw 0;have y1 := j.thaw 1;have y2 := j.thaw 2;have y3 := j.thaw 3;have z0 := j.c0;have z1 := j.c1;have z2 := j.c2;have z3 := j.c3;have RP := z3k j (v + 1) (.slice al Ll cl) (.slice ac Lc cc) M;have f0 := RP.c0;have f1 := RP.c1;have f2 := RP.c2;have f3 := RP.c3
    have i : Hid (z1z ⟨v, es, cs⟩ ch w (.returned (.tuple #[.agg (stC (v + 1) (.slice al Ll cl) (.slice ac Lc cc) M), .int .i64 0])) (putS ((w4.setCell ⟨w.heap.size, 1, none⟩ (.slice al Ll cl)).setCell ⟨w.heap.size, 0, none⟩ (.int .i64 (v + 1))) (w.heap.size + 1) (v + 1) (.slice al Ll cl) (.slice ac Lc cc) M)) := hid (by
     have h := G.out l al cl (putS ((w4.setCell ⟨w.heap.size, 1, none⟩ (.slice al Ll cl)).setCell ⟨w.heap.size, 0, none⟩ (.int .i64 (v + 1))) (w.heap.size + 1) (v + 1) (.slice al Ll cl) (.slice ac Lc cc) M) t.out;rw [<- J.out] at h;have Z := z00 x.out g;have s : Below w.heap.size w (putS ((w4.setCell ⟨w.heap.size, 1, none⟩ (.slice al Ll cl)).setCell ⟨w.heap.size, 0, none⟩ (.int .i64 (v + 1))) (w.heap.size + 1) (v + 1) (.slice al Ll cl) (.slice ac Lc cc) M) := ((z00 E.out Z).trans (A.below (B := w.heap.size) (by omega))).trans ((z14 _ _ _ _ _ _).below (B := w.heap.size) (by omega));have hst := (O.out.blw s).at_ s.size;have ar := z2t (z2t (ai.out.old g) RA (z7b (fun _ => Value.noConfusion) (fun _ => Value.noConfusion) (fun _ => Value.noConfusion) (fun _ => Value.noConfusion))) RB (z7b (fun _ => Value.noConfusion) (fun _ => Value.noConfusion) (fun _ => Value.noConfusion) (fun _ => Value.noConfusion))
     have aa : SlE (putS ((w4.setCell ⟨w.heap.size, 1, none⟩ (.slice al Ll cl)).setCell ⟨w.heap.size, 0, none⟩ (.int .i64 (v + 1))) (w.heap.size + 1) (v + 1) (.slice al Ll cl) (.slice ac Lc cc) M) (Old (putS ((w4.setCell ⟨w.heap.size, 1, none⟩ (.slice al Ll cl)).setCell ⟨w.heap.size, 0, none⟩ (.int .i64 (v + 1))) (w.heap.size + 1) (v + 1) (.slice al Ll cl) (.slice ac Lc cc) M)) (.slice al l.length cl) l :=
      Sl.keep ar (fun b hb => ((z14 _ _ _ _ _ _).block b hb.2).trans (A.block b hb.1.2)) (fun b hb => Nat.lt_of_lt_of_eq hb.1.1 ((z14 _ _ _ _ _ _).size.trans A.size).symm) (fun _ _ h => h)
     exact h ⟨aa, hst.cs, hst.nil, hst.map⟩ s)
    clear A RB j RP RA z aq g n d;go_wp2;exact bodyPost_ret (v := .tuple #[.agg (stC (v + 1) (.slice al Ll cl) (.slice ac Lc cc) M), .int .i64 0]) (by simp [results, Tryz.results82, go_sem, f0, f1, f2, f3]) rfl i.out
  ·have t := hid (chg_long (v := v) o.out.symm (by rw [<- HQ.out]; exact hq))
   have au : Hid (qe = 2) := hid (by
    rcases zbe l X.out with h | h
    ·rw [<- HQ.out] at h; injection h with h1 h2; exact absurd h2 hq
    ·rw [<- HQ.out] at h; injection h with h1 h2)
   rw [au.out] at n;clear hq
   go_wp2_with fail
   refine n.out.mono ?_;rintro e w4 ⟨rfl, g⟩;obtain ⟨⟨a0, a1, a2, a3⟩, ⟨t0, t1, t2, t3⟩, ⟨e0, e1, e2, e3⟩, ⟨f0, f1, f2, f3⟩, f⟩ := d.out w4 (z00 x.out g);have i := hid (f 2 t.out);clear f g n d;go_wp2;exact bodyPost_ret (v := .tuple #[.agg (stC v (.slice ae Le ce) (.slice ac Lc cc) M), .int .i64 2]) (by simp [results, Tryz.results82, go_sem, f0, f1, f2, f3]) rfl i.out
end Go.Proofs.YtdkkkeoicekdgaaGreatDoor.Md

end

section

namespace Go.Proofs.YtdkkkeoicekdgaaGreatDoor.Md
set_option maxHeartbeats 12800000
set_option maxRecDepth 100000
open Go.RowKit Go.Maps Go.WideShapes Go.WideMaps Go.Proofs.YtdkkkeoicekdgaaGreatDoor Go.Proofs.YtdkkkeoicekdgaaGreatDoor.Ca
theorem zdd {c : Cli} : ∀ {l : List Cli} {j : Nat} {x : Cli}, SrtC l -> l[j]? = some x -> x.id = c.id -> putL c l = l.set j c
 | [], j, x, _, h, _ => by simp at h
 | y :: r, 0, x, _, h, he => by
  obtain rfl := Option.some.inj h
  rw [putL, if_neg (by omega), if_pos he]; rfl
 | y :: r, j + 1, x, hs, h, he => by
  have h2 : r[j]? = some x := by simpa using h
  unfold SrtC at hs
  rw [List.pairwise_cons] at hs;have := hs.1 x (List.mem_of_getElem? h2)
  rw [putL, if_pos (by omega), zdd hs.2 h2 he]; rfl
theorem z5e {c : Cli} : ∀ {l : List Cli} {p : Nat}, p <= l.length -> (∀ (j : Nat) x, j < p -> l[j]? = some x -> x.id < c.id) -> (∀ x, l[p]? = some x -> c.id < x.id) -> putL c l = l.take p ++ c :: l.drop p
 | [], p, hp, _, _ => by
  obtain rfl : p = 0 := by simpa using hp
  rfl
 | y :: r, 0, _, _, h => by
  have := h y rfl
  rw [putL, if_neg (by omega), if_neg (by omega)]; rfl
 | y :: r, p + 1, hp, h1, h2 => by
  have h0 := h1 0 y (by omega) rfl
  rw [putL, if_pos h0, z5e (p := p) (by simpa using hp) (fun j x hj hx => h1 (j + 1) x (by omega) (by simpa using hx)) (fun x hx => h2 x (by simpa using hx))]; rfl
theorem z5w {w : World} {base g cap : Nat} {n : Nat} {xs : List Cli} (h : OwnL w base (.slice (some ⟨g, 0, none⟩) n cap) xs) : ∃ cur, w.heap[g]? = some (.cells cur 32 (0, 0)) /\ cur.size = cap * 4 /\ cur.toList.take (xs.length * 4) = flatL xs /\ base <= g /\ n = xs.length /\ xs.length <= cap /\ cap <= maxLen := by
 rcases h.2 with ⟨h0, -⟩ | ⟨g', cap', cur, hv, hb, hh, hc, hm, hs, ht⟩
 ·cases h0
 ·injection hv with hv1 hv2 hv3
  obtain rfl : g = g' := by injection hv1 with h; injection h
  subst hv3;exact ⟨cur, hh, hs, ht, hb, hv2, hc, hm⟩
theorem z91 {w : World} {base g cap : Nat} {xs : List Cli} {cur : Array Value} (hh : w.heap[g]? = some (.cells cur 32 (0, 0))) (hs : cur.size = cap * 4) (ht : cur.toList.take (xs.length * 4) = flatL xs) (hb : base <= g) (hc : xs.length <= cap) (hm : cap <= maxLen) :
  OwnL w base (.slice (some ⟨g, 0, none⟩) xs.length cap) xs := ⟨z34 xs, .inr ⟨g, cap, cur, rfl, hb, hh, hc, hm, hs, ht⟩⟩
theorem z8f : ∀ (xs : List Cli) (k : Nat), flatL (xs.take k) = (flatL xs).take (k * 4)
 | [], k => by simp [flatL]
 | x :: r, 0 => rfl
 | x :: r, k + 1 => by
  rw [show (k + 1) * 4 = k * 4 + 1 + 1 + 1 + 1 by omega];simp only [List.take_succ_cons, flatL, z8f r k]
theorem z8g : ∀ (xs : List Cli) (k : Nat), flatL (xs.drop k) = (flatL xs).drop (k * 4)
 | [], k => by simp [flatL]
 | x :: r, 0 => rfl
 | x :: r, k + 1 => by
  rw [show (k + 1) * 4 = k * 4 + 1 + 1 + 1 + 1 by omega];simp only [List.drop_succ_cons, flatL, z8g r k]
theorem own_setL {w : World} {B g cap p : Nat} {xs : List Cli} {x : Cli} (h : OwnL w B (.slice (some ⟨g, 0, none⟩) xs.length cap) xs) (hp : p < xs.length) :
  OwnL (w.setCells g (p * 4) (flatL [x])) B (.slice (some ⟨g, 0, none⟩) xs.length cap) (xs.set p x) := by
 obtain ⟨c, hh, hs, ht, hb, -, hc, hm⟩ := z5w h
 have i : c.toList.length = cap * 4 := by simpa using hs
 have d := z0v g (flatL [x]) (p * 4) w c 32 (0, 0) hh;have b : (xs.set p x).length = xs.length := List.length_set;have a : (flatL [x]).length = 4 := rfl
 have f : xs.set p x = xs.take p ++ x :: xs.drop (p + 1) := by rw [List.set_eq_take_append_cons_drop, if_pos hp]
 have key : OwnL (w.setCells g (p * 4) (flatL [x])) B (.slice (some ⟨g, 0, none⟩) (xs.set p x).length cap) (xs.set p x) := by
  refine z91 d (by rw [z0y]; exact hs) ?_ hb (by omega) hm;rw [z1o _ _ _ (by rw [a]; omega), b, f, z35, show x :: xs.drop (p + 1) = [x] ++ xs.drop (p + 1) from rfl, z35, z8f, z8g, <- ht, a];rw [List.take_take, Nat.min_eq_left (by omega), List.drop_take, List.append_assoc, List.take_append, List.take_append, List.length_take, Nat.min_eq_left (by omega), a];rw [List.take_take, Nat.min_eq_right (by omega), List.take_of_length_le (l := flatL [x]) (by rw [a]; omega), show (p + 1) * 4 = p * 4 + 4 by omega, show xs.length * 4 - p * 4 - 4 = xs.length * 4 - (p * 4 + 4) by omega]
 rw [b] at key;exact key
theorem ze5 {P : Program} {ops : Array Oper} {rest : List Oper} {op : Oper} {a : Act} {w : World} {Q : Exit -> Act -> World -> Prop} (h : Hid (wpList P ops Q (op :: rest) a w)) : wpList P ops Q (op :: rest) a w := h.out
theorem z4e {P : Program} {ops : Array Oper} {rest : List Oper} {op : Oper} {a : Act} {w : World} {Q : Exit -> Act -> World -> Prop} {ty : TypeId} {x y : Operand} (_ : op.op = .store ty x y) (h : Hid (wpList P ops Q (op :: rest) a w)) : wpList P ops Q (op :: rest) a w := h.out
theorem ze8 {l : List Cli} {D : DataW Unit} {id : Int} (h : GoodK l l.length D) (hh : Maps.has D (kI id) = true) : ∃ (j : Nat) (x : Cli), l[j]? = some x /\ x.id = id /\ D.atKey (kI id) (.lit (kI 0)) = .lit (kI j) := by
 obtain ⟨j, x, h1, h2, h3⟩ := (h.has id).1 hh;refine ⟨j, x, h2, h3, ?_⟩
 rw [<- h3]; exact h.at_ j x h1 h2
theorem good_no {l : List Cli} {D : DataW Unit} {id : Int} (h : GoodK l l.length D) (hh : Maps.has D (kI id) = false) : ∀ x, x ∈ l -> x.id ≠ id := fun x hx he => by
 obtain ⟨j, hj⟩ := List.mem_iff_getElem?.1 hx;have := (h.has id).2 ⟨j, x, (List.getElem?_eq_some_iff.1 hj).1, hj, he⟩
 rw [hh] at this; cases this
theorem z8q (w : World) (m : Mdl) (ae : Option Addr) (ce : Nat) (ac : Option Addr) (cc M : Nat) (c : Cli) (hst : StAt w m ae ce ac cc M) (hsr : SrtC m.cs) (hl : m.cs.length <= 16) (hle : m.es.length <= 1000) (hid : ∀ x, x ∈ m.cs -> 1 <= x.id /\ x.id <= 1073741824) (hci : 1 <= c.id /\ c.id <= 1073741824) (hkn : ∃ x, x ∈ m.cs /\ x.id = c.id) :
  Calls Tryz.prog 83 #[.agg (stC m.vr (.slice ae m.es.length ce) (.slice ac m.cs.length cc) M), clV c] w (z3h ⟨m.vr, m.es, putL c m.cs⟩ w) := by
 obtain ⟨v, es, cs⟩ := m;obtain ⟨ci, cq, ca, cv⟩ := c;simp only at hst hsr hl hle hid hci hkn ⊢;have C := Lib.hid hst.lt;obtain ⟨n0, D, Y, r⟩ := hst.map;have Z := Lib.hid Y;have aO := Lib.hid r;have aP := Lib.hid hsr;have aQ := Lib.hid hid;obtain ⟨Le, N⟩ := nmd (es.length);obtain ⟨Lc, a⟩ := nmd (cs.length)
 have aR : Lc <= 16 := by have := a.out; omega
 have aS : Le <= 1000 := by have := N.out; omega
 have ay : Hid (keyOf Tryz.prog 3 (.int .i64 ci) = some (kI ci)) := Lib.hid (keyOf_int_mk Tryz.underlying3 (wfI (by omega) (by omega)));have t := hst.cs.len;simp only at t;rw [<- N.out, <- a.out]
 have aK : Lc <= cc := by have := a.out; omega
 have aM : cc <= 9223372036854775807 := t.2.2;obtain ⟨W1, f⟩ := nmd (((w.alloc (.cells (stC v (.slice ae Le ce) (.slice ac Lc cc) M) 73)).alloc (.cells #[.int .i64 ci, .int .i64 cq, .int .i64 ca, .int .i64 cv] 32)).alloc (.cells #[.int .i64 0, .slice none 0 0, .slice none 0 0, .map none] 73));have az : Hid (W1.heap.size = w.heap.size + 3) := Lib.hid (by rw [f.out]; simp);have O : Hid (Below w.heap.size w W1) := Lib.hid (by rw [f.out]; exact z4q w _ _ _);have u : Hid (Row W1 w.heap.size 73 [.int .i64 v, .slice ae Le ce, .slice ac Lc cc, .map (some M)]) := Lib.hid (by rw [f.out]; exact ((z02 w (stC v (.slice ae Le ce) (.slice ac Lc cc) M) _).alloc _).alloc _)
 have aa : Hid (Row W1 (w.heap.size + 1) 32 [.int .i64 ci, .int .i64 cq, .int .i64 ca, .int .i64 cv]) := Lib.hid (by
  rw [f.out];have h := (z02 (w.alloc (.cells (stC v (.slice ae Le ce) (.slice ac Lc cc) M) 73)) #[.int .i64 ci, .int .i64 cq, .int .i64 ca, .int .i64 cv] 32).alloc (.cells #[.int .i64 0, .slice none 0 0, .slice none 0 0, .map none] 73)
  rwa [World.size_alloc] at h)
 have aA : Hid (Row W1 (w.heap.size + 1 + 1) 73 [.int .i64 0, .slice none 0 0, .slice none 0 0, .map none]) := Lib.hid (by
  rw [f.out];have h := z02 ((w.alloc (.cells (stC v (.slice ae Le ce) (.slice ac Lc cc) M) 73)).alloc (.cells #[.int .i64 ci, .int .i64 cq, .int .i64 ca, .int .i64 cv] 32)) #[.int .i64 0, .slice none 0 0, .slice none 0 0, .map none] 73
  simpa only [World.size_alloc] using h)
 have aB : Hid (OMm W1 M n0 D) := Lib.hid (z1b Z.out (O.out.block _ C.out.lt))
 have a2 : (((w.alloc (.cells (stC v (.slice ae Le ce) (.slice ac Lc cc) M) 73)).alloc (.cells #[.int .i64 ci, .int .i64 cq, .int .i64 ca, .int .i64 cv] 32)).alloc (.cells #[.int .i64 0, .slice none 0 0, .slice none 0 0, .map none] 73)).cell? ⟨w.heap.size, 3, none⟩ = some (.map (some M)) := by rw [<- f.out]; exact u.out.cell rfl
 have b0 : (((w.alloc (.cells (stC v (.slice ae Le ce) (.slice ac Lc cc) M) 73)).alloc (.cells #[.int .i64 ci, .int .i64 cq, .int .i64 ca, .int .i64 cv] 32)).alloc (.cells #[.int .i64 0, .slice none 0 0, .slice none 0 0, .map none] 73)).cell? ⟨w.heap.size + 1, 0, none⟩ = some (.int .i64 ci) := by rw [<- f.out]; exact aa.out.cell rfl
 have af : Hid (OMm (((w.alloc (.cells (stC v (.slice ae Le ce) (.slice ac Lc cc) M) 73)).alloc (.cells #[.int .i64 ci, .int .i64 cq, .int .i64 ca, .int .i64 cv] 32)).alloc (.cells #[.int .i64 0, .slice none 0 0, .slice none 0 0, .map none] 73)) M n0 D) := Lib.hid (by rw [<- f.out]; exact aB.out)
 have G : Hid (Maps.has D (kI ci) = true) := Lib.hid (by
  obtain ⟨x, hx, he⟩ := hkn;obtain ⟨j, hj⟩ := List.mem_iff_getElem?.1 hx
  exact (r.has ci).2 ⟨j, x, (List.getElem?_eq_some_iff.1 hj).1, hj, he⟩)
 obtain ⟨j, x, hx, E, H⟩ := ze8 r G.out;have aC := Lib.hid H
 have aT : j < Lc := by
  have h9 := (List.getElem?_eq_some_iff.1 hx).1;simp only at h9
  have := a.out; omega
 have n : Hid (putL ⟨ci, cq, ca, cv⟩ cs = cs.set j ⟨ci, cq, ca, cv⟩) := Lib.hid (zdd hsr hx E)
 have aD : Hid (GoodK (cs.set j ⟨ci, cq, ca, cv⟩) (cs.set j ⟨ci, cq, ca, cv⟩).length D) := Lib.hid (by
  have I := (List.getElem?_eq_some_iff.1 hx).1
  have J : ∀ (k : Nat) y, (cs.set j ⟨ci, cq, ca, cv⟩)[k]? = some y -> ∃ z, cs[k]? = some z /\ z.id = y.id := fun k y hk => by
   by_cases hkj : k = j
   ·subst hkj
    rw [List.getElem?_set_self I] at hk;obtain rfl := Option.some.inj hk;exact ⟨x, hx, E⟩
   ·rw [List.getElem?_set_ne (Ne.symm hkj)] at hk
    exact ⟨y, hk, rfl⟩
  refine ⟨fun id => ?_, fun k y hk hy => ?_⟩
  ·rw [r.has id, List.length_set]
   constructor
   ·rintro ⟨k, y, h1, h2, h3⟩
    by_cases hkj : k = j
    ·subst hkj
     rw [hx] at h2; obtain rfl := Option.some.inj h2
     exact ⟨k, ⟨ci, cq, ca, cv⟩, h1, by rw [List.getElem?_set_self I], by rw [<- h3, E]⟩
    ·exact ⟨k, y, h1, by rw [List.getElem?_set_ne (Ne.symm hkj)]; exact h2, h3⟩
   ·rintro ⟨k, y, h1, h2, h3⟩
    obtain ⟨z, hz, R⟩ := J k y h2;exact ⟨k, z, h1, hz, R.trans h3⟩
  ·obtain ⟨z, hz, R⟩ := J k y hy
   rw [<- R];rw [List.length_set] at hk
   exact r.at_ k z hk hz)
 have T := Lib.hid (fun W (h : Below w.heap.size w W) => z8j W ac cc cs (hst.cs.old h) (by have := a.out; omega));rw [<- a.out] at T;clear hst hsr hl hle hid Y r t hkn hx E H
 go_enter Tryz.func83, Tryz.ntmps83
 go_wp2_with (at_lookup; refine wpList_lookup_own_ok_int _ rfl _ _ 71 rfl 3 3 .i64 lawI Tryz.underlying71 Tryz.underlying3 (zeroI _) M _ _ rfl af.out _ _ rfl ay.out ?_; intro cw hat hwc; rw [G.out]; (have aE : cw = (j : Int) := (by rw [aC.out] at hat; injection hat with h1; injection h1 with h2 h3; exact h3.symm)); subst aE; clear hat hwc)
 rw [<- f.out];clear a2 b0 af;have a3 := u.out.c2;have ag := Lib.hid (T.out W1 O.out)
 go_wp2_with fail
 refine ag.out.mono ?_;rintro e w3 ⟨v3, rfl, A, l⟩;obtain ⟨a8, c8, ah, -, -, ai⟩ := z0j A;obtain ⟨g, rfl⟩ := ai (by have := a.out; omega);rw [<- a.out] at ah;subst ah;have aF := Lib.hid l;have aU := Lib.hid A;have L := Lib.hid ((u.out.below l).set 2 (.slice (some ⟨g, 0, none⟩) Lc c8));have b : But w.heap.size w3 (w3.setCell ⟨w.heap.size, 2, none⟩ (.slice (some ⟨g, 0, none⟩) Lc c8)) := (But.refl _ _).set _ _;have aG := Lib.hid b;have aN := az.out;have aj := z24 A b (by omega)
 have o : OwnL (w3.setCell ⟨w.heap.size, 2, none⟩ (.slice (some ⟨g, 0, none⟩) Lc c8)) W1.heap.size (.slice (some ⟨g, 0, none⟩) cs.length c8) cs := by rw [<- a.out]; exact aj
 have aV : W1.heap.size <= g := (A.lt g rfl).1
 have aW : Lc <= c8 := by
  obtain ⟨aH, -, -, -, -, -, h6, -⟩ := z5w o
  have := a.out; omega
 have a4 := (u.out.below l).c2;have t4 := (u.out.below l).thaw 2;have a5 : (w3.setCell ⟨w.heap.size, 2, none⟩ (.slice (some ⟨g, 0, none⟩) Lc c8)).cell? ⟨w.heap.size, 2, none⟩ = some (.slice (some ⟨g, 0, none⟩) Lc c8) := L.out.cell rfl;have q := Lib.hid ((aa.out.below l).keep (b.block (w.heap.size + 1) (by omega)));have q0 := q.out.c0;have q1 := q.out.c1;have q2 := q.out.c2;have q3 := q.out.c3
 have aI : Hid ((w3.setCell ⟨w.heap.size, 2, none⟩ (.slice (some ⟨g, 0, none⟩) Lc c8)).there g (j * 4) 4) := Lib.hid (fun i hi => by
  obtain ⟨aH, hh, hs, -, -, -, h6, -⟩ := z5w o;have := a.out
  exact ⟨by rw [z1m hh, Array.getElem?_eq_getElem (by omega)]; rfl, z1l hh _⟩)
 have aJ : (Tryz.prog.info? 32).map (·.size) = some 4 := by kernel_rfl
 have U := Lib.hid (own_setL (p := j) (x := ⟨ci, cq, ca, cv⟩) o (by have := a.out; omega));have F := Lib.hid (z0e g (flatL [⟨ci, cq, ca, cv⟩]) (j * 4) (w3.setCell ⟨w.heap.size, 2, none⟩ (.slice (some ⟨g, 0, none⟩) Lc c8)));have s := L.out.keep (F.out.block w.heap.size (by omega));have d := ((aA.out.below l).keep (b.block (w.heap.size + 1 + 1) (by omega))).keep (F.out.block (w.heap.size + 1 + 1) (by omega));clear b l A aj o ai ag T
 go_wp2_with (with_reducible refine ze5 ?_; refine Lib.hid ?_; refine z4e (ty := 32) (x := .tmp 28) (y := .tmp 27) rfl ?_)
 refine Lib.hid ?_;refine wpList_store_mid rfl 32 (.tmp 28) (.tmp 27) rfl g (j * 4) #[.int .i64 ci, .int .i64 cq, .int .i64 ca, .int .i64 cv] rfl rfl aI.out aJ (all_oneCell_toArray (cs := [.int .i64 ci, .int .i64 cq, .int .i64 ca, .int .i64 cv]) (z7h (xs := [⟨ci, cq, ca, cv⟩]))) ?_;obtain ⟨W6, aq⟩ := nmd ((w3.setCell ⟨w.heap.size, 2, none⟩ (.slice (some ⟨g, 0, none⟩) Lc c8)).setCells g (j * 4) (flatL [⟨ci, cq, ca, cv⟩]))
 change wpList _ _ _ _ _ ((w3.setCell ⟨w.heap.size, 2, none⟩ (.slice (some ⟨g, 0, none⟩) Lc c8)).setCells g (j * 4) (flatL [⟨ci, cq, ca, cv⟩]))
 rw [<- aq.out] at U F s d ⊢;have y0 := s.c0;have y1 := s.c1;have y2 := s.c2;have y3 := s.c3;have t0 := d.thaw 0;have t1 := d.thaw 1;have t2 := d.thaw 2;have t3 := d.thaw 3;have e0 := d.c0;have e1 := d.c1;have e2 := d.c2;have e3 := d.c3;have RP := z3k d v (.slice ae Le ce) (.slice (some ⟨g, 0, none⟩) Lc c8) M;have f0 := RP.c0;have f1 := RP.c1;have f2 := RP.c2;have f3 := RP.c3
 have ar : Hid (z3h ⟨v, es, putL ⟨ci, cq, ca, cv⟩ cs⟩ w (.returned (.agg (stC v (.slice ae Le ce) (.slice (some ⟨g, 0, none⟩) Lc c8) M))) (putS W6 (w.heap.size + 1 + 1) v (.slice ae Le ce) (.slice (some ⟨g, 0, none⟩) Lc c8) M)) := Lib.hid (by
  have au : Below w.heap.size w W6 := ((z00 O.out aF.out).trans (aG.out.below (B := w.heap.size) (by omega))).trans (F.out.below (B := w.heap.size) (by omega));have V := z14 W6 (w.heap.size + 1 + 1) v (.slice ae Le ce) (.slice (some ⟨g, 0, none⟩) Lc c8) M;have X := au.trans (V.below (B := w.heap.size) (by omega));have hst := (C.out.blw X).at_ X.size;have aw := z24 U.out V (by omega)
  have ax : (putL ⟨ci, cq, ca, cv⟩ cs).length = Lc := by rw [n.out, List.length_set, a.out]
  refine ⟨ae, ce, some ⟨g, 0, none⟩, c8, M, ?_, ⟨?_, ?_, fun h => (by cases h), ?_⟩, ?_, X⟩
  ·rw [show (⟨v, es, putL ⟨ci, cq, ca, cv⟩ cs⟩ : Mdl).es.length = Le from N.out.symm, show (⟨v, es, putL ⟨ci, cq, ca, cv⟩ cs⟩ : Mdl).cs.length = Lc from ax]
  ·exact hst.es
  ·have h9 := OwnL.sl (xs := cs.set j ⟨ci, cq, ca, cv⟩) (v := .slice (some ⟨g, 0, none⟩) cs.length c8) aw
   rw [show (⟨v, es, putL ⟨ci, cq, ca, cv⟩ cs⟩ : Mdl).cs = cs.set j ⟨ci, cq, ca, cv⟩ from n.out, List.length_set];exact h9
  ·obtain ⟨n9, D9, h8, -⟩ := hst.map
   refine ⟨n0, D, z1b (z1b Z.out (au.block _ C.out.lt)) (V.block _ (by have := C.out.lt; omega)), ?_⟩;rw [show (⟨v, es, putL ⟨ci, cq, ca, cv⟩ cs⟩ : Mdl).cs = cs.set j ⟨ci, cq, ca, cv⟩ from n.out];exact aD.out
  ·have h9 := OwnL.fsh (xs := cs.set j ⟨ci, cq, ca, cv⟩) (v := .slice (some ⟨g, 0, none⟩) cs.length c8) (z29 (B' := w.heap.size) aw (by omega))
   rw [show (⟨v, es, putL ⟨ci, cq, ca, cv⟩ cs⟩ : Mdl).cs = cs.set j ⟨ci, cq, ca, cv⟩ from n.out, List.length_set]
   exact h9)
 clear s d RP a3 a4 a5 t4 q0 q1 q2 q3 U aq;go_wp2;exact bodyPost_ret (v := .agg (stC v (.slice ae Le ce) (.slice (some ⟨g, 0, none⟩) Lc c8) M)) (by simp [results, Tryz.results83, go_sem, f0, f1, f2, f3]) rfl ar.out
end Go.Proofs.YtdkkkeoicekdgaaGreatDoor.Md

end
