/- Package model: Do. -/
import Derived.Test.YtdkkkeoicekdgaaGreatDoorZEMrr

section

namespace Go.Proofs.YtdkkkeoicekdgaaGreatDoor.Md
set_option maxHeartbeats 6400000
set_option maxRecDepth 100000
open Go.Lib (hid)
open Go.RowKit Go.Maps Go.WideShapes Go.WideMaps Go.Proofs.YtdkkkeoicekdgaaGreatDoor Go.Proofs.YtdkkkeoicekdgaaGreatDoor.Ca
def DoP (m : Mdl) (c : Cmd) (w : World) (e : Ending) (w' : World) : Prop :=
 (¬ (RgtM m /\ mayC c = true) /\ e = .returned (.tuple #[.agg #[.int .i64 0, .slice none 0 0, .slice none 0 0], clV ⟨0, 0, 0, 0⟩, .int .i64 1]) /\ Below w.heap.size w w') ∨
 (RgtM m /\ mayC c = true /\ ∃ ae ce ac cc, e = .returned (.tuple #[.agg (mdC (doF m c).1.vr (.slice ae (doF m c).1.es.length ce) (.slice ac (doF m c).1.cs.length cc)), clV (doF m c).2, .int .i64 0]) /\ SlE w' (Old w') (.slice ae (doF m c).1.es.length ce) (doF m c).1.es /\ SlL w' (Old w') (.slice ac (doF m c).1.cs.length cc) (doF m c).1.cs /\ Below w.heap.size w w')
abbrev putM (w : World) (R : Nat) (v : Int) (ve vc : Value) : World := ((w.setCell ⟨R, 0, none⟩ (.int .i64 v)).setCell ⟨R, 1, none⟩ ve).setCell ⟨R, 2, none⟩ vc
theorem z5f {w : World} {R : Nat} {t : TypeId} {x0 x1 x2 : Value} (h : Row w R t [x0, x1, x2]) (v : Int) (ve vc : Value) : Row (putM w R v ve vc) R t [.int .i64 v, ve, vc] := ((h.set 0 (.int .i64 v)).set 1 ve).set 2 vc
theorem z1e (w : World) (R : Nat) (v : Int) (ve vc : Value) : But R w (putM w R v ve vc) := (((But.refl _ _).set _ _).set _ _).set _ _
structure StoM (W : World) (R T : Nat) (v : Int) (ve vc : Value) (r : Cli) : Prop where
 c1 : W.cell? ⟨R, 0, none⟩ = some (.int .i64 0) /\ W.cell? ⟨R, 1, none⟩ = some (.slice none 0 0) /\ W.cell? ⟨R, 2, none⟩ = some (.slice none 0 0)
 f1 : W.frozen? ⟨R, 0, none⟩ = false /\ W.frozen? ⟨R, 1, none⟩ = false /\ W.frozen? ⟨R, 2, none⟩ = false
 c2 : (putM W R v ve vc).cell? ⟨T, 0, none⟩ = some (.int .i64 0) /\ (putM W R v ve vc).cell? ⟨T, 1, none⟩ = some (.int .i64 0) /\ (putM W R v ve vc).cell? ⟨T, 2, none⟩ = some (.int .i64 0) /\ (putM W R v ve vc).cell? ⟨T, 3, none⟩ = some (.int .i64 0)
 f2 : (putM W R v ve vc).frozen? ⟨T, 0, none⟩ = false /\ (putM W R v ve vc).frozen? ⟨T, 1, none⟩ = false /\ (putM W R v ve vc).frozen? ⟨T, 2, none⟩ = false /\ (putM W R v ve vc).frozen? ⟨T, 3, none⟩ = false
 g1 : (putT (putM W R v ve vc) T r.id r.sq r.an r.vr).cell? ⟨R, 0, none⟩ = some (.int .i64 v) /\ (putT (putM W R v ve vc) T r.id r.sq r.an r.vr).cell? ⟨R, 1, none⟩ = some ve /\ (putT (putM W R v ve vc) T r.id r.sq r.an r.vr).cell? ⟨R, 2, none⟩ = some vc
 g2 : (putT (putM W R v ve vc) T r.id r.sq r.an r.vr).cell? ⟨T, 0, none⟩ = some (.int .i64 r.id) /\ (putT (putM W R v ve vc) T r.id r.sq r.an r.vr).cell? ⟨T, 1, none⟩ = some (.int .i64 r.sq) /\ (putT (putM W R v ve vc) T r.id r.sq r.an r.vr).cell? ⟨T, 2, none⟩ = some (.int .i64 r.an) /\ (putT (putM W R v ve vc) T r.id r.sq r.an r.vr).cell? ⟨T, 3, none⟩ = some (.int .i64 r.vr)
 bl : ∀ B : Nat, B <= R -> B <= T -> ∀ w0 : World, Below B w0 W -> Below B w0 (putT (putM W R v ve vc) T r.id r.sq r.an r.vr)
theorem z4s {W : World} {R T : Nat} {t1 t2 : TypeId} (hR : Row W R t1 [.int .i64 0, .slice none 0 0, .slice none 0 0]) (hT : Row W T t2 [.int .i64 0, .int .i64 0, .int .i64 0, .int .i64 0]) (hne : R ≠ T) (v : Int) (ve vc : Value) (r : Cli) : StoM W R T v ve vc r := by
 have h2 : Row (putM W R v ve vc) T t2 [.int .i64 0, .int .i64 0, .int .i64 0, .int .i64 0] := hT.keep ((z1e W R v ve vc).block T (Ne.symm hne));have h3 := z5f hR v ve vc;have h4 : Row (putT (putM W R v ve vc) T r.id r.sq r.an r.vr) R t1 [.int .i64 v, ve, vc] := h3.keep ((z19 _ T _ _ _ _).block R hne);have h5 := z8x h2 r.id r.sq r.an r.vr
 exact ⟨⟨hR.cell rfl, hR.cell rfl, hR.cell rfl⟩, ⟨hR.thaw _, hR.thaw _, hR.thaw _⟩, ⟨h2.cell rfl, h2.cell rfl, h2.cell rfl, h2.cell rfl⟩, ⟨h2.thaw _, h2.thaw _, h2.thaw _, h2.thaw _⟩,
  ⟨h4.cell rfl, h4.cell rfl, h4.cell rfl⟩, ⟨h5.cell rfl, h5.cell rfl, h5.cell rfl, h5.cell rfl⟩,
  fun B h1 h9 w0 hb => (hb.trans ((z1e W R v ve vc).below h1)).trans ((z19 _ T _ _ _ _).below h9)⟩
theorem do_no (w : World) (m : Mdl) (ae : Option Addr) (ce : Nat) (ac : Option Addr) (cc : Nat) (c : Cmd) (b : Option Addr) (capc : Nat) (hE : SlE w (Old w) (.slice ae m.es.length ce) m.es) (hC : SlL w (Old w) (.slice ac m.cs.length cc) m.cs) (hF : ∀ x, x ∈ m.es -> FitE x) (hV : EnvC w) (hno : ¬ (RgtM m /\ mayC c = true)) :
  Calls Tryz.prog 11 #[.agg (mdC m.vr (.slice ae m.es.length ce) (.slice ac m.cs.length cc)), .agg #[.int .i64 c.cl, .int .i64 c.sq, .slice b c.ch.length capc]] w (DoP m c w) := by
 have k := hid (fun W (h : Below w.heap.size w W) => z5u W m ae ce ac cc (hE.old h) (hC.old h) hF (hV.below h));have g := hid (fun W => z5j W c b capc);have t := hid hno;obtain ⟨Le, l⟩ := nmd (m.es.length);obtain ⟨Lc, n⟩ := nmd (m.cs.length);obtain ⟨Lh, o⟩ := nmd (c.ch.length);obtain ⟨v, Hv⟩ := nmd (m.vr);obtain ⟨cl, p⟩ := nmd (c.cl);obtain ⟨sq, q⟩ := nmd (c.sq);rw [<- l.out, <- n.out, <- Hv.out] at k;rw [<- o.out, <- p.out, <- q.out] at g;rw [<- l.out, <- n.out, <- o.out, <- Hv.out, <- p.out, <- q.out];clear hE hC hF hV hno l n o Hv p q;obtain ⟨W1, d⟩ := nmd ((((w.alloc (.cells (mdC v (.slice ae Le ce) (.slice ac Lc cc)) 25)).alloc (.cells #[.int .i64 cl, .int .i64 sq, .slice b Lh capc] 28)).alloc (.cells #[.int .i64 0, .slice none 0 0, .slice none 0 0] 25)).alloc (.cells #[.int .i64 0, .int .i64 0, .int .i64 0, .int .i64 0] 32));have u : Hid (Below w.heap.size w W1) := hid (by rw [d.out]; exact (z4q w _ _ _).alloc (by simp; omega) _);have s : Hid (Row W1 w.heap.size 25 [.int .i64 v, .slice ae Le ce, .slice ac Lc cc]) := hid (by rw [d.out]; exact (((z02 w (mdC v (.slice ae Le ce) (.slice ac Lc cc)) _).alloc _).alloc _).alloc _)
 have C : Hid (Row W1 (w.heap.size + 1) 28 [.int .i64 cl, .int .i64 sq, .slice b Lh capc]) := hid (by
  rw [d.out];have h := ((z02 (w.alloc (.cells (mdC v (.slice ae Le ce) (.slice ac Lc cc)) 25)) #[.int .i64 cl, .int .i64 sq, .slice b Lh capc] 28).alloc (.cells #[.int .i64 0, .slice none 0 0, .slice none 0 0] 25)).alloc (.cells #[.int .i64 0, .int .i64 0, .int .i64 0, .int .i64 0] 32)
  simpa only [World.size_alloc] using h)
 have D : Hid (Row W1 (w.heap.size + 1 + 1) 25 [.int .i64 0, .slice none 0 0, .slice none 0 0]) := hid (by
  rw [d.out];have h := (z02 ((w.alloc (.cells (mdC v (.slice ae Le ce) (.slice ac Lc cc)) 25)).alloc (.cells #[.int .i64 cl, .int .i64 sq, .slice b Lh capc] 28)) #[.int .i64 0, .slice none 0 0, .slice none 0 0] 25).alloc (.cells #[.int .i64 0, .int .i64 0, .int .i64 0, .int .i64 0] 32)
  simpa only [World.size_alloc] using h)
 have y : Hid (Row W1 (w.heap.size + 1 + 1 + 1) 32 [.int .i64 0, .int .i64 0, .int .i64 0, .int .i64 0]) := hid (by
  rw [d.out];have h := z02 (((w.alloc (.cells (mdC v (.slice ae Le ce) (.slice ac Lc cc)) 25)).alloc (.cells #[.int .i64 cl, .int .i64 sq, .slice b Lh capc] 28)).alloc (.cells #[.int .i64 0, .slice none 0 0, .slice none 0 0] 25)) #[.int .i64 0, .int .i64 0, .int .i64 0, .int .i64 0] 32
  simpa only [World.size_alloc] using h)
 have f : Hid (∀ W, Below W1.heap.size W1 W -> StoM W (w.heap.size + 1 + 1) (w.heap.size + 1 + 1 + 1) 0 (.slice none 0 0) (.slice none 0 0) ⟨0, 0, 0, 0⟩) := hid (fun W h => z4s (D.out.below h) (y.out.below h) (by omega) _ _ _ _);have j : Hid (∀ W, Below W1.heap.size W1 W -> DoP m c w (.returned (.tuple #[.agg #[.int .i64 0, .slice none 0 0, .slice none 0 0], clV ⟨0, 0, 0, 0⟩, .int .i64 1])) (putT (putM W (w.heap.size + 1 + 1) 0 (.slice none 0 0) (.slice none 0 0)) (w.heap.size + 1 + 1 + 1) 0 0 0 0)) := hid (fun W h => .inl ⟨t.out, rfl, (f.out W h).bl _ (by omega) (by omega) w (z00 u.out h)⟩)
 have a0 : ((((w.alloc (.cells (mdC v (.slice ae Le ce) (.slice ac Lc cc)) 25)).alloc (.cells #[.int .i64 cl, .int .i64 sq, .slice b Lh capc] 28)).alloc (.cells #[.int .i64 0, .slice none 0 0, .slice none 0 0] 25)).alloc (.cells #[.int .i64 0, .int .i64 0, .int .i64 0, .int .i64 0] 32)).cell? ⟨w.heap.size, 0, none⟩ = some (.int .i64 v) := by rw [<- d.out]; exact s.out.cell rfl
 have a1 : ((((w.alloc (.cells (mdC v (.slice ae Le ce) (.slice ac Lc cc)) 25)).alloc (.cells #[.int .i64 cl, .int .i64 sq, .slice b Lh capc] 28)).alloc (.cells #[.int .i64 0, .slice none 0 0, .slice none 0 0] 25)).alloc (.cells #[.int .i64 0, .int .i64 0, .int .i64 0, .int .i64 0] 32)).cell? ⟨w.heap.size, 1, none⟩ = some (.slice ae Le ce) := by rw [<- d.out]; exact s.out.cell rfl
 have a2 : ((((w.alloc (.cells (mdC v (.slice ae Le ce) (.slice ac Lc cc)) 25)).alloc (.cells #[.int .i64 cl, .int .i64 sq, .slice b Lh capc] 28)).alloc (.cells #[.int .i64 0, .slice none 0 0, .slice none 0 0] 25)).alloc (.cells #[.int .i64 0, .int .i64 0, .int .i64 0, .int .i64 0] 32)).cell? ⟨w.heap.size, 2, none⟩ = some (.slice ac Lc cc) := by rw [<- d.out]; exact s.out.cell rfl
 go_enter Tryz.func11, Tryz.ntmps11
 go_wp2_with fail
 rw [<- d.out];refine (k.out W1 u.out).mono ?_;rintro e w2 ⟨r, rfl, hr, z⟩;have HR := hid hr;have i : Hid (Below W1.heap.size W1 w2) := hid z;clear a0 a1 a2 hr z k
 cases r with
 | false =>
  have a := f.out w2 i.out;obtain ⟨r0, r1, r2⟩ := a.c1;obtain ⟨s0, s1, s2⟩ := a.f1;obtain ⟨t0, t1, t2, t3⟩ := a.c2;obtain ⟨u0, u1, u2, u3⟩ := a.f2;obtain ⟨f0, f1, f2⟩ := a.g1;obtain ⟨g0, g1, g2, g3⟩ := a.g2;simp only at g0 g1 g2 g3 f0 f1 f2;have HF := hid (j.out w2 i.out);clear a;go_wp2;exact bodyPost_ret (v := .tuple #[.agg #[.int .i64 0, .slice none 0 0, .slice none 0 0], clV ⟨0, 0, 0, 0⟩, .int .i64 1]) (by simp [results, Tryz.results11, go_sem, f0, f1, f2, g0, g1, g2, g3]) rfl HF.out
 | true =>
  have E : Hid (mayC c = false) := hid (by
   cases hm : mayC c with
   | false => rfl
   | true => exact absurd ⟨HR.out.1 (by first | rfl | trivial), hm⟩ t.out)
  rw [E.out] at g;have RC := C.out.below i.out;have b0 := RC.c0;have b1 := RC.c1;have b2 := RC.c2;clear RC
  go_wp2_with fail
  refine (g.out w2).mono ?_;rintro e w3 ⟨rfl, A⟩;have B := hid (z00 i.out A);clear b0 b1 b2 A g;have a := f.out w3 B.out;obtain ⟨r0, r1, r2⟩ := a.c1;obtain ⟨s0, s1, s2⟩ := a.f1;obtain ⟨t0, t1, t2, t3⟩ := a.c2;obtain ⟨u0, u1, u2, u3⟩ := a.f2;obtain ⟨f0, f1, f2⟩ := a.g1;obtain ⟨g0, g1, g2, g3⟩ := a.g2;simp only at g0 g1 g2 g3 f0 f1 f2;have HF := hid (j.out w3 B.out);clear a;go_wp2;exact bodyPost_ret (v := .tuple #[.agg #[.int .i64 0, .slice none 0 0, .slice none 0 0], clV ⟨0, 0, 0, 0⟩, .int .i64 1]) (by simp [results, Tryz.results11, go_sem, f0, f1, f2, g0, g1, g2, g3]) rfl HF.out

theorem zf5 {w : World} {S : Nat -> Prop} {v : Value} {xs : List Cli} {A : Nat} {t : TypeId} (h : SlL w S v xs) (hid : ∀ x, x ∈ xs -> 1 <= x.id) (hA : Row w A t [.int .i64 0, .int .i64 0, .int .i64 0, .int .i64 0]) : SlL w (fun b => S b /\ b ≠ A) v xs := by
 obtain ⟨a, i, hv, k1, k2, k3⟩ := h;refine ⟨a, i, hv, k1, k2, fun hne => ?_⟩;obtain ⟨b, d, ha, hb, g⟩ := k3 hne;refine ⟨b, d, ha, ⟨hb, fun e => ?_⟩, g⟩;subst e;have c := List.length_pos_iff.2 hne;have hi := hid (xs[0]'c) (List.getElem_mem c);have hx := (atL (g 0 (xs[0]'c) (List.getElem?_eq_getElem _))).1;generalize (xs[0]'c).id = n at hi hx
 have f : w.cell? ⟨b, d + 0 * 4, none⟩ = [Value.int .i64 0, .int .i64 0, .int .i64 0, .int .i64 0][d + 0 * 4]? := by
  have hh : w.heap[b]? = some (.cells [Value.int .i64 0, .int .i64 0, .int .i64 0, .int .i64 0].toArray t (0, 0)) := hA
  simp [World.cell?, hh]
 rw [f] at hx
 have hz : n = 0 := by
  match d, hx with
  | 0, hx => have := Option.some.inj hx; injection this with _ h2; exact h2.symm
  | 1, hx => have := Option.some.inj hx; injection this with _ h2; exact h2.symm
  | 2, hx => have := Option.some.inj hx; injection this with _ h2; exact h2.symm
  | 3, hx => have := Option.some.inj hx; injection this with _ h2; exact h2.symm
  | _ + 4, hx => simp at hx
 omega
theorem StAt.butZ {w w' : World} {m : Mdl} {ae ac : Option Addr} {ce cc M A : Nat} {t : TypeId} (h : StAt w m ae ce ac cc M) (hid : ∀ x, x ∈ m.cs -> 1 <= x.id) (hA : Row w A t [.int .i64 0, .int .i64 0, .int .i64 0, .int .i64 0]) (hb : But A w w') : StAt w' m ae ce ac cc M := by
 obtain ⟨n, D, a, hg⟩ := h.map;have he := z2t h.es hA (z7b (fun _ => Value.noConfusion) (fun _ => Value.noConfusion) (fun _ => Value.noConfusion) (fun _ => Value.noConfusion));have hc := zf5 h.cs hid hA;refine ⟨Sl.keep he (fun b hb2 => hb.block b hb2.2) (fun b hb2 => Nat.lt_of_lt_of_eq hb2.1 hb.size.symm) (fun _ _ h => h), Sl.keep hc (fun b hb2 => hb.block b hb2.2) (fun b hb2 => Nat.lt_of_lt_of_eq hb2.1 hb.size.symm) (fun _ _ h => h), h.nil, n, D, z1b a (hb.block _ (fun e => ?_)), hg⟩;subst e;obtain ⟨es, c, hh, -⟩ := a;have d : w.heap[M]? = some (.cells [Value.int .i64 0, .int .i64 0, .int .i64 0, .int .i64 0].toArray t (0, 0)) := hA;rw [d] at hh
 injection hh with hh; cases hh
theorem zdq : ∀ (i : Nat) s, [Value.int .i64 0, Value.slice none 0 0, Value.slice none 0 0][i]? ≠ some (.string s)
 | 0, s => fun e => by have := Option.some.inj e; cases this
 | 1, s => fun e => by have := Option.some.inj e; cases this
 | 2, s => fun e => by have := Option.some.inj e; cases this
 | _ + 3, s => fun e => by simp at e
theorem zf6 {w : World} {S : Nat -> Prop} {v : Value} {xs : List Cli} {A : Nat} {t : TypeId} (h : SlL w S v xs) (hA : Row w A t [.int .i64 0, .slice none 0 0, .slice none 0 0]) : SlL w (fun b => S b /\ b ≠ A) v xs := by
 obtain ⟨a, g, hv, k1, k2, k3⟩ := h;refine ⟨a, g, hv, k1, k2, fun hne => ?_⟩;obtain ⟨b, c, ha, hb, f⟩ := k3 hne;refine ⟨b, c, ha, ⟨hb, fun e => ?_⟩, f⟩;subst e;have hx := (atL (f 0 (xs[0]'(List.length_pos_iff.2 hne)) (List.getElem?_eq_getElem _))).2.1
 have d : w.cell? ⟨b, c + 0 * 4 + 1, none⟩ = [Value.int .i64 0, Value.slice none 0 0, Value.slice none 0 0][c + 0 * 4 + 1]? := by
  have hh : w.heap[b]? = some (.cells [Value.int .i64 0, Value.slice none 0 0, Value.slice none 0 0].toArray t (0, 0)) := hA
  simp [World.cell?, hh]
 rw [d] at hx
 match c, hx with
 | 0, hx => have := Option.some.inj hx; cases this
 | 1, hx => have := Option.some.inj hx; cases this
 | _ + 2, hx => simp at hx
theorem StAt.butR {w w' : World} {m : Mdl} {ae ac : Option Addr} {ce cc M A : Nat} {t : TypeId} (h : StAt w m ae ce ac cc M) (hA : Row w A t [.int .i64 0, .slice none 0 0, .slice none 0 0]) (hb : But A w w') : StAt w' m ae ce ac cc M := by
 obtain ⟨n, D, a, hg⟩ := h.map;have he := z2t h.es hA zdq;have hc := zf6 h.cs hA;refine ⟨Sl.keep he (fun b hb2 => hb.block b hb2.2) (fun b hb2 => Nat.lt_of_lt_of_eq hb2.1 hb.size.symm) (fun _ _ h => h), Sl.keep hc (fun b hb2 => hb.block b hb2.2) (fun b hb2 => Nat.lt_of_lt_of_eq hb2.1 hb.size.symm) (fun _ _ h => h), h.nil, n, D, z1b a (hb.block _ (fun e => ?_)), hg⟩;subst e;obtain ⟨es, c, hh, -⟩ := a;have d : w.heap[M]? = some (.cells [Value.int .i64 0, Value.slice none 0 0, Value.slice none 0 0].toArray t (0, 0)) := hA;rw [d] at hh
 injection hh with hh; cases hh
end Go.Proofs.YtdkkkeoicekdgaaGreatDoor.Md

end
