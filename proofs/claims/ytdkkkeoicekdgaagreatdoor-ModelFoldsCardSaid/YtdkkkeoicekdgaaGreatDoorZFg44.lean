/- Package model: Do. -/
import Derived.Test.YtdkkkeoicekdgaaGreatDoorZFMrr

section

namespace Go.Proofs.YtdkkkeoicekdgaaGreatDoor.Md
open Go.RowKit Go.Maps Go.WideShapes Go.WideMaps Go.Proofs.YtdkkkeoicekdgaaGreatDoor Go.Proofs.YtdkkkeoicekdgaaGreatDoor.Ca
abbrev putM (w : World) (R : Nat) (v : Int) (ve vc : Value) : World := ((w.setCell ⟨R, 0, none⟩ (.int .i64 v)).setCell ⟨R, 1, none⟩ ve).setCell ⟨R, 2, none⟩ vc
theorem z2i {w : World} {R : Nat} {t : TypeId} {x0 x1 x2 : Value} (h : Row w R t [x0, x1, x2]) (v : Int) (ve vc : Value) : Row (putM w R v ve vc) R t [.int .i64 v, ve, vc] := ((h.set 0 (.int .i64 v)).set 1 ve).set 2 vc
theorem z11 (w : World) (R : Nat) (v : Int) (ve vc : Value) : But R w (putM w R v ve vc) := (((But.refl _ _).set _ _).set _ _).set _ _
structure StoM (W : World) (R T : Nat) (v : Int) (ve vc : Value) (r : Cli) : Prop where
 c1 : W.cell? ⟨R, 0, none⟩ = some (.int .i64 0) /\ W.cell? ⟨R, 1, none⟩ = some (.slice none 0 0) /\ W.cell? ⟨R, 2, none⟩ = some (.slice none 0 0)
 f1 : W.frozen? ⟨R, 0, none⟩ = false /\ W.frozen? ⟨R, 1, none⟩ = false /\ W.frozen? ⟨R, 2, none⟩ = false
 c2 : (putM W R v ve vc).cell? ⟨T, 0, none⟩ = some (.int .i64 0) /\ (putM W R v ve vc).cell? ⟨T, 1, none⟩ = some (.int .i64 0) /\ (putM W R v ve vc).cell? ⟨T, 2, none⟩ = some (.int .i64 0) /\ (putM W R v ve vc).cell? ⟨T, 3, none⟩ = some (.int .i64 0)
 f2 : (putM W R v ve vc).frozen? ⟨T, 0, none⟩ = false /\ (putM W R v ve vc).frozen? ⟨T, 1, none⟩ = false /\ (putM W R v ve vc).frozen? ⟨T, 2, none⟩ = false /\ (putM W R v ve vc).frozen? ⟨T, 3, none⟩ = false
 g1 : (putT (putM W R v ve vc) T r.id r.sq r.an r.vr).cell? ⟨R, 0, none⟩ = some (.int .i64 v) /\ (putT (putM W R v ve vc) T r.id r.sq r.an r.vr).cell? ⟨R, 1, none⟩ = some ve /\ (putT (putM W R v ve vc) T r.id r.sq r.an r.vr).cell? ⟨R, 2, none⟩ = some vc
 g2 : (putT (putM W R v ve vc) T r.id r.sq r.an r.vr).cell? ⟨T, 0, none⟩ = some (.int .i64 r.id) /\ (putT (putM W R v ve vc) T r.id r.sq r.an r.vr).cell? ⟨T, 1, none⟩ = some (.int .i64 r.sq) /\ (putT (putM W R v ve vc) T r.id r.sq r.an r.vr).cell? ⟨T, 2, none⟩ = some (.int .i64 r.an) /\ (putT (putM W R v ve vc) T r.id r.sq r.an r.vr).cell? ⟨T, 3, none⟩ = some (.int .i64 r.vr)
 bl : ∀ B : Nat, B <= R -> B <= T -> ∀ w0 : World, Below B w0 W -> Below B w0 (putT (putM W R v ve vc) T r.id r.sq r.an r.vr)
theorem z6r {W : World} {R T : Nat} {t1 t2 : TypeId} (hR : Row W R t1 [.int .i64 0, .slice none 0 0, .slice none 0 0]) (hT : Row W T t2 [.int .i64 0, .int .i64 0, .int .i64 0, .int .i64 0]) (hne : R ≠ T) (v : Int) (ve vc : Value) (r : Cli) : StoM W R T v ve vc r := by
 have h2 : Row (putM W R v ve vc) T t2 [.int .i64 0, .int .i64 0, .int .i64 0, .int .i64 0] := hT.keep ((z11 W R v ve vc).block T (Ne.symm hne));have h3 := z2i hR v ve vc;have h4 : Row (putT (putM W R v ve vc) T r.id r.sq r.an r.vr) R t1 [.int .i64 v, ve, vc] := h3.keep ((z1d _ T _ _ _ _).block R hne);have h5 := z8u h2 r.id r.sq r.an r.vr
 exact ⟨⟨hR.cell rfl, hR.cell rfl, hR.cell rfl⟩, ⟨hR.thaw _, hR.thaw _, hR.thaw _⟩, ⟨h2.cell rfl, h2.cell rfl, h2.cell rfl, h2.cell rfl⟩, ⟨h2.thaw _, h2.thaw _, h2.thaw _, h2.thaw _⟩,
  ⟨h4.cell rfl, h4.cell rfl, h4.cell rfl⟩, ⟨h5.cell rfl, h5.cell rfl, h5.cell rfl, h5.cell rfl⟩,
  fun B h1 h9 w0 hb => (hb.trans ((z11 W R v ve vc).below h1)).trans ((z1d _ T _ _ _ _).below h9)⟩

theorem z95 : ∀ (i : Nat) s, [Value.int .i64 0, Value.slice none 0 0, Value.slice none 0 0][i]? ≠ some (.string s)
 | 0, s => fun e => by have := Option.some.inj e; cases this
 | 1, s => fun e => by have := Option.some.inj e; cases this
 | 2, s => fun e => by have := Option.some.inj e; cases this
 | _ + 3, s => fun e => by simp at e
theorem zf2 {w : World} {S : Nat -> Prop} {v : Value} {xs : List Cli} {A : Nat} {t : TypeId} (h : SlL w S v xs) (hA : Row w A t [.int .i64 0, .slice none 0 0, .slice none 0 0]) : SlL w (fun b => S b /\ b ≠ A) v xs := by
 obtain ⟨a, g, hv, k1, k2, k3⟩ := h;refine ⟨a, g, hv, k1, k2, fun hne => ?_⟩;obtain ⟨b, c, ha, hb, f⟩ := k3 hne;refine ⟨b, c, ha, ⟨hb, fun e => ?_⟩, f⟩;subst e;have hx := (atL (f 0 (xs[0]'(List.length_pos_iff.2 hne)) (List.getElem?_eq_getElem _))).2.1
 have d : w.cell? ⟨b, c + 0 * 4 + 1, none⟩ = [Value.int .i64 0, Value.slice none 0 0, Value.slice none 0 0][c + 0 * 4 + 1]? := by
  have hh : w.heap[b]? = some (.cells [Value.int .i64 0, Value.slice none 0 0, Value.slice none 0 0].toArray t (0, 0)) := hA
  simp [World.cell?, hh]
 rw [d] at hx
 match c, hx with
 | 0, hx => have := Option.some.inj hx; cases this
 | 1, hx => have := Option.some.inj hx; cases this
 | _ + 2, hx => simp at hx
theorem StAt.butR {w w' : World} {m : Mdl} {ae ac : Option Addr} {ce cc M A : Nat} {t : TypeId} (h : StAt w m ae ce ac cc M) (hA : Row w A t [.int .i64 0, .slice none 0 0, .slice none 0 0]) (hb : But A w w') : StAt w' m ae ce ac cc M := by
 obtain ⟨n, D, a, hg⟩ := h.map;have he := z3d h.es hA z95;have hc := zf2 h.cs hA;refine ⟨Sl.keep he (fun b hb2 => hb.block b hb2.2) (fun b hb2 => Nat.lt_of_lt_of_eq hb2.1 hb.size.symm) (fun _ _ h => h), Sl.keep hc (fun b hb2 => hb.block b hb2.2) (fun b hb2 => Nat.lt_of_lt_of_eq hb2.1 hb.size.symm) (fun _ _ h => h), h.nil, n, D, z1e a (hb.block _ (fun e => ?_)), hg⟩;subst e;obtain ⟨es, c, hh, -⟩ := a;have d : w.heap[M]? = some (.cells [Value.int .i64 0, Value.slice none 0 0, Value.slice none 0 0].toArray t (0, 0)) := hA;rw [d] at hh
 injection hh with hh; cases hh
end Go.Proofs.YtdkkkeoicekdgaaGreatDoor.Md

end
