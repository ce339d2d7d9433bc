/- Package model: Do. -/
import Derived.Test.YtdkkkeoicekdgaaGreatDoorZBMrr

section

namespace Go.Proofs.YtdkkkeoicekdgaaGreatDoor.Md
set_option maxHeartbeats 6400000
set_option maxRecDepth 100000
open Go.Lib (hid)
open Go.RowKit Go.Maps Go.WideShapes Go.WideMaps Go.Proofs.YtdkkkeoicekdgaaGreatDoor Go.Proofs.YtdkkkeoicekdgaaGreatDoor.Ca
def DoP (m : Mdl) (c : Cmd) (w : World) (e : Ending) (w' : World) : Prop :=
 (¬ (RgtM m /\ mayC c = true) /\ e = .returned (.tuple #[.agg #[.int .i64 0, .slice none 0 0, .slice none 0 0], clV ⟨0, 0, 0, 0⟩, .int .i64 1]) /\ Below w.heap.size w w') ∨
 (RgtM m /\ mayC c = true /\ ∃ ae ce ac cc, e = .returned (.tuple #[.agg (mdC (doF m c).1.vr (.slice ae (doF m c).1.es.length ce) (.slice ac (doF m c).1.cs.length cc)), clV (doF m c).2, .int .i64 0]) /\ SlE w' (Old w') (.slice ae (doF m c).1.es.length ce) (doF m c).1.es /\ SlL w' (Old w') (.slice ac (doF m c).1.cs.length cc) (doF m c).1.cs /\ Below w.heap.size w w')
abbrev putM (w : World) (R : Nat) (v : Int) (ve vc : Value) : World := ((w.setCell ⟨R, 0, none⟩ (.int .i64 v)).setCell ⟨R, 1, none⟩ ve).setCell ⟨R, 2, none⟩ vc
theorem z3f {w : World} {R : Nat} {t : TypeId} {x0 x1 x2 : Value} (h : Row w R t [x0, x1, x2]) (v : Int) (ve vc : Value) : Row (putM w R v ve vc) R t [.int .i64 v, ve, vc] := ((h.set 0 (.int .i64 v)).set 1 ve).set 2 vc
theorem z28 (w : World) (R : Nat) (v : Int) (ve vc : Value) : But R w (putM w R v ve vc) := (((But.refl _ _).set _ _).set _ _).set _ _
structure StoM (W : World) (R T : Nat) (v : Int) (ve vc : Value) (r : Cli) : Prop where
 c1 : W.cell? ⟨R, 0, none⟩ = some (.int .i64 0) /\ W.cell? ⟨R, 1, none⟩ = some (.slice none 0 0) /\ W.cell? ⟨R, 2, none⟩ = some (.slice none 0 0)
 f1 : W.frozen? ⟨R, 0, none⟩ = false /\ W.frozen? ⟨R, 1, none⟩ = false /\ W.frozen? ⟨R, 2, none⟩ = false
 c2 : (putM W R v ve vc).cell? ⟨T, 0, none⟩ = some (.int .i64 0) /\ (putM W R v ve vc).cell? ⟨T, 1, none⟩ = some (.int .i64 0) /\ (putM W R v ve vc).cell? ⟨T, 2, none⟩ = some (.int .i64 0) /\ (putM W R v ve vc).cell? ⟨T, 3, none⟩ = some (.int .i64 0)
 f2 : (putM W R v ve vc).frozen? ⟨T, 0, none⟩ = false /\ (putM W R v ve vc).frozen? ⟨T, 1, none⟩ = false /\ (putM W R v ve vc).frozen? ⟨T, 2, none⟩ = false /\ (putM W R v ve vc).frozen? ⟨T, 3, none⟩ = false
 g1 : (putT (putM W R v ve vc) T r.id r.sq r.an r.vr).cell? ⟨R, 0, none⟩ = some (.int .i64 v) /\ (putT (putM W R v ve vc) T r.id r.sq r.an r.vr).cell? ⟨R, 1, none⟩ = some ve /\ (putT (putM W R v ve vc) T r.id r.sq r.an r.vr).cell? ⟨R, 2, none⟩ = some vc
 g2 : (putT (putM W R v ve vc) T r.id r.sq r.an r.vr).cell? ⟨T, 0, none⟩ = some (.int .i64 r.id) /\ (putT (putM W R v ve vc) T r.id r.sq r.an r.vr).cell? ⟨T, 1, none⟩ = some (.int .i64 r.sq) /\ (putT (putM W R v ve vc) T r.id r.sq r.an r.vr).cell? ⟨T, 2, none⟩ = some (.int .i64 r.an) /\ (putT (putM W R v ve vc) T r.id r.sq r.an r.vr).cell? ⟨T, 3, none⟩ = some (.int .i64 r.vr)
 bl : ∀ B : Nat, B <= R -> B <= T -> ∀ w0 : World, Below B w0 W -> Below B w0 (putT (putM W R v ve vc) T r.id r.sq r.an r.vr)
theorem z8d {W : World} {R T : Nat} {t1 t2 : TypeId} (hR : Row W R t1 [.int .i64 0, .slice none 0 0, .slice none 0 0]) (hT : Row W T t2 [.int .i64 0, .int .i64 0, .int .i64 0, .int .i64 0]) (hne : R ≠ T) (v : Int) (ve vc : Value) (r : Cli) : StoM W R T v ve vc r := by
 have h2 : Row (putM W R v ve vc) T t2 [.int .i64 0, .int .i64 0, .int .i64 0, .int .i64 0] := hT.keep ((z28 W R v ve vc).block T (Ne.symm hne))
 have h3 := z3f hR v ve vc
 have h4 : Row (putT (putM W R v ve vc) T r.id r.sq r.an r.vr) R t1 [.int .i64 v, ve, vc] := h3.keep ((z0z _ T _ _ _ _).block R hne)
 have h5 := z66 h2 r.id r.sq r.an r.vr
 exact ⟨⟨hR.cell rfl, hR.cell rfl, hR.cell rfl⟩, ⟨hR.thaw _, hR.thaw _, hR.thaw _⟩, ⟨h2.cell rfl, h2.cell rfl, h2.cell rfl, h2.cell rfl⟩, ⟨h2.thaw _, h2.thaw _, h2.thaw _, h2.thaw _⟩,
  ⟨h4.cell rfl, h4.cell rfl, h4.cell rfl⟩, ⟨h5.cell rfl, h5.cell rfl, h5.cell rfl, h5.cell rfl⟩,
  fun B h1 h9 w0 hb => (hb.trans ((z28 W R v ve vc).below h1)).trans ((z0z _ T _ _ _ _).below h9)⟩
theorem do_no (w : World) (m : Mdl) (ae : Option Addr) (ce : Nat) (ac : Option Addr) (cc : Nat) (c : Cmd) (b : Option Addr) (capc : Nat) (hE : SlE w (Old w) (.slice ae m.es.length ce) m.es) (hC : SlL w (Old w) (.slice ac m.cs.length cc) m.cs) (hF : ∀ x, x ∈ m.es -> FitE x) (hV : EnvC w) (hno : ¬ (RgtM m /\ mayC c = true)) :
  Calls Tryz.prog 11 #[.agg (mdC m.vr (.slice ae m.es.length ce) (.slice ac m.cs.length cc)), .agg #[.int .i64 c.cl, .int .i64 c.sq, .slice b c.ch.length capc]] w (DoP m c w) := by
 have HRT := hid (fun W (h : Below w.heap.size w W) => z5i W m ae ce ac cc (hE.old h) (hC.old h) hF (hV.below h))
 have HMY := hid (fun W => z3j W c b capc)
 have HNO := hid hno
 obtain ⟨Le, HLe⟩ : ∃ L, Hid (L = m.es.length) := ⟨_, hid rfl⟩
 obtain ⟨Lc, HLc⟩ : ∃ L, Hid (L = m.cs.length) := ⟨_, hid rfl⟩
 obtain ⟨Lh, HLh⟩ : ∃ L, Hid (L = c.ch.length) := ⟨_, hid rfl⟩
 obtain ⟨v, Hv⟩ : ∃ L, Hid (L = m.vr) := ⟨_, hid rfl⟩
 obtain ⟨cl, Hcl⟩ : ∃ L, Hid (L = c.cl) := ⟨_, hid rfl⟩
 obtain ⟨sq, Hsq⟩ : ∃ L, Hid (L = c.sq) := ⟨_, hid rfl⟩
 rw [<- HLe.out, <- HLc.out, <- Hv.out] at HRT
 rw [<- HLh.out, <- Hcl.out, <- Hsq.out] at HMY
 rw [<- HLe.out, <- HLc.out, <- HLh.out, <- Hv.out, <- Hcl.out, <- Hsq.out]
 clear hE hC hF hV hno HLe HLc HLh Hv Hcl Hsq
 obtain ⟨W1, HW1⟩ : ∃ W, Hid (W = (((w.alloc (.cells (mdC v (.slice ae Le ce) (.slice ac Lc cc)) 25)).alloc (.cells #[.int .i64 cl, .int .i64 sq, .slice b Lh capc] 28)).alloc (.cells #[.int .i64 0, .slice none 0 0, .slice none 0 0] 25)).alloc (.cells #[.int .i64 0, .int .i64 0, .int .i64 0, .int .i64 0] 32)) := ⟨_, hid rfl⟩
 have HB1 : Hid (Below w.heap.size w W1) := hid (by rw [HW1.out]; exact (z49 w _ _ _).alloc (by simp; omega) _)
 have HRA : Hid (Row W1 w.heap.size 25 [.int .i64 v, .slice ae Le ce, .slice ac Lc cc]) := hid (by rw [HW1.out]; exact (((z01 w (mdC v (.slice ae Le ce) (.slice ac Lc cc)) _).alloc _).alloc _).alloc _)
 have HRC : Hid (Row W1 (w.heap.size + 1) 28 [.int .i64 cl, .int .i64 sq, .slice b Lh capc]) := hid (by
  rw [HW1.out]
  have h := ((z01 (w.alloc (.cells (mdC v (.slice ae Le ce) (.slice ac Lc cc)) 25)) #[.int .i64 cl, .int .i64 sq, .slice b Lh capc] 28).alloc (.cells #[.int .i64 0, .slice none 0 0, .slice none 0 0] 25)).alloc (.cells #[.int .i64 0, .int .i64 0, .int .i64 0, .int .i64 0] 32)
  simpa only [World.size_alloc] using h)
 have HRR : Hid (Row W1 (w.heap.size + 1 + 1) 25 [.int .i64 0, .slice none 0 0, .slice none 0 0]) := hid (by
  rw [HW1.out]
  have h := (z01 ((w.alloc (.cells (mdC v (.slice ae Le ce) (.slice ac Lc cc)) 25)).alloc (.cells #[.int .i64 cl, .int .i64 sq, .slice b Lh capc] 28)) #[.int .i64 0, .slice none 0 0, .slice none 0 0] 25).alloc (.cells #[.int .i64 0, .int .i64 0, .int .i64 0, .int .i64 0] 32)
  simpa only [World.size_alloc] using h)
 have HRTT : Hid (Row W1 (w.heap.size + 1 + 1 + 1) 32 [.int .i64 0, .int .i64 0, .int .i64 0, .int .i64 0]) := hid (by
  rw [HW1.out]
  have h := z01 (((w.alloc (.cells (mdC v (.slice ae Le ce) (.slice ac Lc cc)) 25)).alloc (.cells #[.int .i64 cl, .int .i64 sq, .slice b Lh capc] 28)).alloc (.cells #[.int .i64 0, .slice none 0 0, .slice none 0 0] 25)) #[.int .i64 0, .int .i64 0, .int .i64 0, .int .i64 0] 32
  simpa only [World.size_alloc] using h)
 have HEND : Hid (∀ W, Below W1.heap.size W1 W -> StoM W (w.heap.size + 1 + 1) (w.heap.size + 1 + 1 + 1) 0 (.slice none 0 0) (.slice none 0 0) ⟨0, 0, 0, 0⟩) := hid (fun W h => z8d (HRR.out.below h) (HRTT.out.below h) (by omega) _ _ _ _)
 have HFIN : Hid (∀ W, Below W1.heap.size W1 W -> DoP m c w (.returned (.tuple #[.agg #[.int .i64 0, .slice none 0 0, .slice none 0 0], clV ⟨0, 0, 0, 0⟩, .int .i64 1])) (putT (putM W (w.heap.size + 1 + 1) 0 (.slice none 0 0) (.slice none 0 0)) (w.heap.size + 1 + 1 + 1) 0 0 0 0)) := hid (fun W h => .inl ⟨HNO.out, rfl, (HEND.out W h).bl _ (by omega) (by omega) w (z00 HB1.out h)⟩)
 have a0 : ((((w.alloc (.cells (mdC v (.slice ae Le ce) (.slice ac Lc cc)) 25)).alloc (.cells #[.int .i64 cl, .int .i64 sq, .slice b Lh capc] 28)).alloc (.cells #[.int .i64 0, .slice none 0 0, .slice none 0 0] 25)).alloc (.cells #[.int .i64 0, .int .i64 0, .int .i64 0, .int .i64 0] 32)).cell? ⟨w.heap.size, 0, none⟩ = some (.int .i64 v) := by rw [<- HW1.out]; exact HRA.out.cell rfl
 have a1 : ((((w.alloc (.cells (mdC v (.slice ae Le ce) (.slice ac Lc cc)) 25)).alloc (.cells #[.int .i64 cl, .int .i64 sq, .slice b Lh capc] 28)).alloc (.cells #[.int .i64 0, .slice none 0 0, .slice none 0 0] 25)).alloc (.cells #[.int .i64 0, .int .i64 0, .int .i64 0, .int .i64 0] 32)).cell? ⟨w.heap.size, 1, none⟩ = some (.slice ae Le ce) := by rw [<- HW1.out]; exact HRA.out.cell rfl
 have a2 : ((((w.alloc (.cells (mdC v (.slice ae Le ce) (.slice ac Lc cc)) 25)).alloc (.cells #[.int .i64 cl, .int .i64 sq, .slice b Lh capc] 28)).alloc (.cells #[.int .i64 0, .slice none 0 0, .slice none 0 0] 25)).alloc (.cells #[.int .i64 0, .int .i64 0, .int .i64 0, .int .i64 0] 32)).cell? ⟨w.heap.size, 2, none⟩ = some (.slice ac Lc cc) := by rw [<- HW1.out]; exact HRA.out.cell rfl
 go_enter Tryz.func11, Tryz.ntmps11
 go_wp2_with fail
 rw [<- HW1.out]
 refine (HRT.out W1 HB1.out).mono ?_
 rintro e w2 ⟨r, rfl, hr, hb2⟩
 have HR := hid hr
 have HB2 : Hid (Below W1.heap.size W1 w2) := hid hb2
 clear a0 a1 a2 hr hb2 HRT
 cases r with
 | false =>
  have hst := HEND.out w2 HB2.out
  obtain ⟨r0, r1, r2⟩ := hst.c1
  obtain ⟨s0, s1, s2⟩ := hst.f1
  obtain ⟨t0, t1, t2, t3⟩ := hst.c2
  obtain ⟨u0, u1, u2, u3⟩ := hst.f2
  obtain ⟨f0, f1, f2⟩ := hst.g1
  obtain ⟨g0, g1, g2, g3⟩ := hst.g2
  simp only at g0 g1 g2 g3 f0 f1 f2
  have HF := hid (HFIN.out w2 HB2.out)
  clear hst
  go_wp2
  exact bodyPost_ret (v := .tuple #[.agg #[.int .i64 0, .slice none 0 0, .slice none 0 0], clV ⟨0, 0, 0, 0⟩, .int .i64 1]) (by simp [results, Tryz.results11, go_sem, f0, f1, f2, g0, g1, g2, g3]) rfl HF.out
 | true =>
  have HMF : Hid (mayC c = false) := hid (by
   cases hm : mayC c with
   | false => rfl
   | true => exact absurd ⟨HR.out.1 (by first | rfl | trivial), hm⟩ HNO.out)
  rw [HMF.out] at HMY
  have RC := HRC.out.below HB2.out
  have b0 := RC.cell (i := 0) rfl
  have b1 := RC.cell (i := 1) rfl
  have b2 := RC.cell (i := 2) rfl
  clear RC
  go_wp2_with fail
  refine (HMY.out w2).mono ?_
  rintro e w3 ⟨rfl, hb3⟩
  have HB3 := hid (z00 HB2.out hb3)
  clear b0 b1 b2 hb3 HMY
  have hst := HEND.out w3 HB3.out
  obtain ⟨r0, r1, r2⟩ := hst.c1
  obtain ⟨s0, s1, s2⟩ := hst.f1
  obtain ⟨t0, t1, t2, t3⟩ := hst.c2
  obtain ⟨u0, u1, u2, u3⟩ := hst.f2
  obtain ⟨f0, f1, f2⟩ := hst.g1
  obtain ⟨g0, g1, g2, g3⟩ := hst.g2
  simp only at g0 g1 g2 g3 f0 f1 f2
  have HF := hid (HFIN.out w3 HB3.out)
  clear hst
  go_wp2
  exact bodyPost_ret (v := .tuple #[.agg #[.int .i64 0, .slice none 0 0, .slice none 0 0], clV ⟨0, 0, 0, 0⟩, .int .i64 1]) (by simp [results, Tryz.results11, go_sem, f0, f1, f2, g0, g1, g2, g3]) rfl HF.out
end Go.Proofs.YtdkkkeoicekdgaaGreatDoor.Md

end

section

namespace Go.Proofs.YtdkkkeoicekdgaaGreatDoor.Md
open Go.Lib (hid)
open Go.RowKit Go.Maps Go.WideShapes Go.WideMaps Go.Proofs.YtdkkkeoicekdgaaGreatDoor Go.Proofs.YtdkkkeoicekdgaaGreatDoor.Ca
theorem zag {w : World} {S : Nat -> Prop} {v : Value} {xs : List Cli} {A : Nat} {t : TypeId} (h : SlL w S v xs) (hid : ∀ x, x ∈ xs -> 1 <= x.id) (hA : Row w A t [.int .i64 0, .int .i64 0, .int .i64 0, .int .i64 0]) : SlL w (fun b => S b /\ b ≠ A) v xs := by
 obtain ⟨a, cap, hv, k1, k2, k3⟩ := h
 refine ⟨a, cap, hv, k1, k2, fun hne => ?_⟩
 obtain ⟨b, off, ha, hb, hat⟩ := k3 hne
 refine ⟨b, off, ha, ⟨hb, fun e => ?_⟩, hat⟩
 subst e
 have hpos := List.length_pos_iff.2 hne
 have hi := hid (xs[0]'hpos) (List.getElem_mem hpos)
 have hx := (atL (hat 0 (xs[0]'hpos) (List.getElem?_eq_getElem _))).1
 generalize (xs[0]'hpos).id = n at hi hx
 have hcell : w.cell? ⟨b, off + 0 * 4, none⟩ = [Value.int .i64 0, .int .i64 0, .int .i64 0, .int .i64 0][off + 0 * 4]? := by
  have hh : w.heap[b]? = some (.cells [Value.int .i64 0, .int .i64 0, .int .i64 0, .int .i64 0].toArray t (0, 0)) := hA
  simp [World.cell?, hh]
 rw [hcell] at hx
 have hz : n = 0 := by
  match off, hx with
  | 0, hx => have := Option.some.inj hx; injection this with _ h2; exact h2.symm
  | 1, hx => have := Option.some.inj hx; injection this with _ h2; exact h2.symm
  | 2, hx => have := Option.some.inj hx; injection this with _ h2; exact h2.symm
  | 3, hx => have := Option.some.inj hx; injection this with _ h2; exact h2.symm
  | _ + 4, hx => simp at hx
 omega
theorem StAt.butZ {w w' : World} {m : Mdl} {ae ac : Option Addr} {ce cc M A : Nat} {t : TypeId} (h : StAt w m ae ce ac cc M) (hid : ∀ x, x ∈ m.cs -> 1 <= x.id) (hA : Row w A t [.int .i64 0, .int .i64 0, .int .i64 0, .int .i64 0]) (hb : But A w w') : StAt w' m ae ce ac cc M := by
 obtain ⟨n, D, hom, hg⟩ := h.map
 have he := z1k h.es hA (z4u (fun _ => Value.noConfusion) (fun _ => Value.noConfusion) (fun _ => Value.noConfusion) (fun _ => Value.noConfusion))
 have hc := zag h.cs hid hA
 refine ⟨Sl.keep he (fun b hb2 => hb.block b hb2.2) (fun b hb2 => Nat.lt_of_lt_of_eq hb2.1 hb.size.symm) (fun _ _ h => h), Sl.keep hc (fun b hb2 => hb.block b hb2.2) (fun b hb2 => Nat.lt_of_lt_of_eq hb2.1 hb.size.symm) (fun _ _ h => h), h.nil, n, D, z0q hom (hb.block _ (fun e => ?_)), hg⟩
 subst e
 obtain ⟨es, clock, hh, -⟩ := hom
 have hA' : w.heap[M]? = some (.cells [Value.int .i64 0, .int .i64 0, .int .i64 0, .int .i64 0].toArray t (0, 0)) := hA
 rw [hA'] at hh
 injection hh with hh; cases hh
theorem no_text3 : ∀ (i : Nat) s, [Value.int .i64 0, Value.slice none 0 0, Value.slice none 0 0][i]? ≠ some (.string s)
 | 0, s => fun e => by have := Option.some.inj e; cases this
 | 1, s => fun e => by have := Option.some.inj e; cases this
 | 2, s => fun e => by have := Option.some.inj e; cases this
 | _ + 3, s => fun e => by simp at e
theorem zah {w : World} {S : Nat -> Prop} {v : Value} {xs : List Cli} {A : Nat} {t : TypeId} (h : SlL w S v xs) (hA : Row w A t [.int .i64 0, .slice none 0 0, .slice none 0 0]) : SlL w (fun b => S b /\ b ≠ A) v xs := by
 obtain ⟨a, cap, hv, k1, k2, k3⟩ := h
 refine ⟨a, cap, hv, k1, k2, fun hne => ?_⟩
 obtain ⟨b, off, ha, hb, hat⟩ := k3 hne
 refine ⟨b, off, ha, ⟨hb, fun e => ?_⟩, hat⟩
 subst e
 have hx := (atL (hat 0 (xs[0]'(List.length_pos_iff.2 hne)) (List.getElem?_eq_getElem _))).2.1
 have hcell : w.cell? ⟨b, off + 0 * 4 + 1, none⟩ = [Value.int .i64 0, Value.slice none 0 0, Value.slice none 0 0][off + 0 * 4 + 1]? := by
  have hh : w.heap[b]? = some (.cells [Value.int .i64 0, Value.slice none 0 0, Value.slice none 0 0].toArray t (0, 0)) := hA
  simp [World.cell?, hh]
 rw [hcell] at hx
 match off, hx with
 | 0, hx => have := Option.some.inj hx; cases this
 | 1, hx => have := Option.some.inj hx; cases this
 | _ + 2, hx => simp at hx
theorem StAt.butR {w w' : World} {m : Mdl} {ae ac : Option Addr} {ce cc M A : Nat} {t : TypeId} (h : StAt w m ae ce ac cc M) (hA : Row w A t [.int .i64 0, .slice none 0 0, .slice none 0 0]) (hb : But A w w') : StAt w' m ae ce ac cc M := by
 obtain ⟨n, D, hom, hg⟩ := h.map
 have he := z1k h.es hA no_text3
 have hc := zah h.cs hA
 refine ⟨Sl.keep he (fun b hb2 => hb.block b hb2.2) (fun b hb2 => Nat.lt_of_lt_of_eq hb2.1 hb.size.symm) (fun _ _ h => h), Sl.keep hc (fun b hb2 => hb.block b hb2.2) (fun b hb2 => Nat.lt_of_lt_of_eq hb2.1 hb.size.symm) (fun _ _ h => h), h.nil, n, D, z0q hom (hb.block _ (fun e => ?_)), hg⟩
 subst e
 obtain ⟨es, clock, hh, -⟩ := hom
 have hA' : w.heap[M]? = some (.cells [Value.int .i64 0, Value.slice none 0 0, Value.slice none 0 0].toArray t (0, 0)) := hA
 rw [hA'] at hh
 injection hh with hh; cases hh
end Go.Proofs.YtdkkkeoicekdgaaGreatDoor.Md

end
