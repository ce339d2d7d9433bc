/- Package model: a command executed. -/
import Derived.Test.YtdkkkeoicekdgaaGreatDoorZEMsz

namespace Go.Proofs.YtdkkkeoicekdgaaGreatDoor.Md
set_option maxHeartbeats 12800000
set_option maxRecDepth 100000
open Go.RowKit Go.Maps Go.WideShapes Go.WideMaps Go.Proofs.YtdkkkeoicekdgaaGreatDoor Go.Proofs.YtdkkkeoicekdgaaGreatDoor.Ca
theorem zbs (w : World) (m : Mdl) (ae : Option Addr) (ce : Nat) (ac : Option Addr) (cc M : Nat) (c : Cli) (hst : StAt w m ae ce ac cc M) (hsr : SrtC m.cs) (hl : m.cs.length <= 16) (hle : m.es.length <= 1000) (hid : ∀ x, x ∈ m.cs -> 1 <= x.id /\ x.id <= 1073741824) (hci : 1 <= c.id /\ c.id <= 1073741824) :
  Calls Tryz.prog 83 #[.agg (stC m.vr (.slice ae m.es.length ce) (.slice ac m.cs.length cc) M), clV c] w (z3h ⟨m.vr, m.es, putL c m.cs⟩ w) := by
 by_cases hkn : ∃ x, x ∈ m.cs /\ x.id = c.id
 ·exact z8q w m ae ce ac cc M c hst hsr hl hle hid hci hkn
 ·have a : ∀ x, x ∈ m.cs -> x.id ≠ c.id := fun x hx he => hkn ⟨x, hx, he⟩
  cases hac : ac with
  | none => subst hac; exact zbq w m ae ce none cc M c hst hsr hl hle hid hci a rfl
  | some ad => subst hac; exact zbr w m ae ce ad cc M c hst hsr hl hle hid hci a
def z7t (r : Mdl × Cli) (w : World) (e : Ending) (w' : World) : Prop := ∃ ae ce ac cc M, e = .returned (.tuple #[.agg (stC r.1.vr (.slice ae r.1.es.length ce) (.slice ac r.1.cs.length cc) M), clV r.2]) /\ StAt w' r.1 ae ce ac cc M /\ Below w.heap.size w w'
theorem zic {m : Mdl} {c : Cmd} {x : Cli} (h : z2g m.cs c.cl = some x) (h1 : x.sq = c.sq) : doF m c = (m, x) := by rw [doF, h]; simp only; rw [if_pos h1]
theorem zel {m : Mdl} {c : Cmd} {x : Cli} (h : z2g m.cs c.cl = some x) (h1 : ¬ x.sq = c.sq) (h2 : c.sq < x.sq) : doF m c = (m, ⟨c.cl, c.sq, 121, 0⟩) := by rw [doF, h]; simp only; rw [if_neg h1, if_pos h2]
theorem zid {m : Mdl} {c : Cmd} (h : z2g m.cs c.cl = none) (h1 : m.cs.length = 16) : doF m c = (m, ⟨c.cl, c.sq, 130, 0⟩) := by rw [doF, h]; simp only; rw [if_pos h1]
theorem zif {m : Mdl} {c : Cmd} {x : Cli} (h : z2g m.cs c.cl = some x) (h1 : ¬ x.sq = c.sq) (h2 : ¬ c.sq < x.sq) : doF m c = exeF m c := by rw [doF, h]; simp only; rw [if_neg h1, if_neg h2]
theorem zie {m : Mdl} {c : Cmd} (h : z2g m.cs c.cl = none) (h1 : ¬ m.cs.length = 16) : doF m c = exeF m c := by rw [doF, h]; simp only; rw [if_neg h1]
theorem z9g {l : List Cli} {j : Nat} {x : Cli} {id : Int} (hs : SrtC l) (hx : l[j]? = some x) (he : x.id = id) : z2g l id = some x := by
 cases hf : z2g l id with
 | none => exact absurd he (z2y.1 hf x (List.mem_of_getElem? hx))
 | some y =>
  obtain ⟨h1, h2⟩ := zb4 hf;obtain ⟨k, hk⟩ := List.mem_iff_getElem?.1 h1
  rcases Nat.lt_trichotomy j k with h | rfl | h
  ·have := za2 hs hx hk h; omega
  ·rw [hx] at hk; exact hk.symm
  ·have := za2 hs hk hx h; omega
def chgM (m : Mdl) (k : Except Nat (List Ent)) : Mdl := match k with | .error _ => m | .ok l => ⟨m.vr + 1, l, m.cs⟩
def chgE (k : Except Nat (List Ent)) : Int := match k with | .error k => (k : Int) | .ok _ => 0
theorem exe_eq (m : Mdl) (c : Cmd) : exeF m c = (⟨(chgM m (chgF m.vr m.es c.ch)).vr, (chgM m (chgF m.vr m.es c.ch)).es, putL ⟨c.cl, c.sq, chgE (chgF m.vr m.es c.ch), (chgM m (chgF m.vr m.es c.ch)).vr⟩ m.cs⟩, ⟨c.cl, c.sq, chgE (chgF m.vr m.es c.ch), (chgM m (chgF m.vr m.es c.ch)).vr⟩) := by
 unfold exeF
 cases chgF m.vr m.es c.ch with
 | error k => rfl
 | ok l => rfl
theorem zfp {m : Mdl} {ch : List Chg} {w w' : World} {e : Ending} (h : z1z m ch w e w') : ∃ ae ce ac cc M, e = .returned (.tuple #[.agg (stC (chgM m (chgF m.vr m.es ch)).vr (.slice ae (chgM m (chgF m.vr m.es ch)).es.length ce) (.slice ac m.cs.length cc) M), .int .i64 (chgE (chgF m.vr m.es ch))]) /\ StAt w' (chgM m (chgF m.vr m.es ch)) ae ce ac cc M /\ Below w.heap.size w w' := by
 obtain ⟨ae, ce, ac, cc, M, h1, h2, h3⟩ := h;exact ⟨ae, ce, ac, cc, M, h3, h1, h2⟩
abbrev putT (w : World) (T : Nat) (i q a r : Int) : World := (((w.setCell ⟨T, 0, none⟩ (.int .i64 i)).setCell ⟨T, 1, none⟩ (.int .i64 q)).setCell ⟨T, 2, none⟩ (.int .i64 a)).setCell ⟨T, 3, none⟩ (.int .i64 r)
theorem z8x {w : World} {T : Nat} {t : TypeId} {x0 x1 x2 x3 : Value} (h : Row w T t [x0, x1, x2, x3]) (i q a r : Int) : Row (putT w T i q a r) T t [.int .i64 i, .int .i64 q, .int .i64 a, .int .i64 r] := (((h.set 0 (.int .i64 i)).set 1 (.int .i64 q)).set 2 (.int .i64 a)).set 3 (.int .i64 r)
theorem z19 (w : World) (T : Nat) (i q a r : Int) : But T w (putT w T i q a r) := ((((But.refl _ _).set _ _).set _ _).set _ _).set _ _
structure Sto (W : World) (R T : Nat) (v : Int) (ve vc : Value) (M : Nat) (r : Cli) : Prop where
 c1 : W.cell? ⟨R, 0, none⟩ = some (.int .i64 0) /\ W.cell? ⟨R, 1, none⟩ = some (.slice none 0 0) /\ W.cell? ⟨R, 2, none⟩ = some (.slice none 0 0) /\ W.cell? ⟨R, 3, none⟩ = some (.map none)
 f1 : W.frozen? ⟨R, 0, none⟩ = false /\ W.frozen? ⟨R, 1, none⟩ = false /\ W.frozen? ⟨R, 2, none⟩ = false /\ W.frozen? ⟨R, 3, none⟩ = false
 c2 : (putS W R v ve vc M).cell? ⟨T, 0, none⟩ = some (.int .i64 0) /\ (putS W R v ve vc M).cell? ⟨T, 1, none⟩ = some (.int .i64 0) /\ (putS W R v ve vc M).cell? ⟨T, 2, none⟩ = some (.int .i64 0) /\ (putS W R v ve vc M).cell? ⟨T, 3, none⟩ = some (.int .i64 0)
 f2 : (putS W R v ve vc M).frozen? ⟨T, 0, none⟩ = false /\ (putS W R v ve vc M).frozen? ⟨T, 1, none⟩ = false /\ (putS W R v ve vc M).frozen? ⟨T, 2, none⟩ = false /\ (putS W R v ve vc M).frozen? ⟨T, 3, none⟩ = false
 g1 : (putT (putS W R v ve vc M) T r.id r.sq r.an r.vr).cell? ⟨R, 0, none⟩ = some (.int .i64 v) /\ (putT (putS W R v ve vc M) T r.id r.sq r.an r.vr).cell? ⟨R, 1, none⟩ = some ve /\ (putT (putS W R v ve vc M) T r.id r.sq r.an r.vr).cell? ⟨R, 2, none⟩ = some vc /\ (putT (putS W R v ve vc M) T r.id r.sq r.an r.vr).cell? ⟨R, 3, none⟩ = some (.map (some M))
 g2 : (putT (putS W R v ve vc M) T r.id r.sq r.an r.vr).cell? ⟨T, 0, none⟩ = some (.int .i64 r.id) /\ (putT (putS W R v ve vc M) T r.id r.sq r.an r.vr).cell? ⟨T, 1, none⟩ = some (.int .i64 r.sq) /\ (putT (putS W R v ve vc M) T r.id r.sq r.an r.vr).cell? ⟨T, 2, none⟩ = some (.int .i64 r.an) /\ (putT (putS W R v ve vc M) T r.id r.sq r.an r.vr).cell? ⟨T, 3, none⟩ = some (.int .i64 r.vr)
 keep : ∀ p : Addr, p.block ≠ R -> p.block ≠ T -> (putS W R v ve vc M).drew.cell? p = W.cell? p /\ (putT (putS W R v ve vc M) T r.id r.sq r.an r.vr).drew.cell? p = W.cell? p
theorem StAt.butT {w w' : World} {m : Mdl} {ae ac : Option Addr} {ce cc M T B : Nat} {t : TypeId} {x0 x1 x2 x3 : Int} (h : StAt w m ae ce ac cc M) (hf : SlL w (Fsh B w) (.slice ac m.cs.length cc) m.cs) (hTB : T < B) (hA : Row w T t [.int .i64 x0, .int .i64 x1, .int .i64 x2, .int .i64 x3]) (hb : But T w w') : StAt w' m ae ce ac cc M := by
 obtain ⟨n, D, a, hg⟩ := h.map;have he := z2t h.es hA (z7b (fun _ => Value.noConfusion) (fun _ => Value.noConfusion) (fun _ => Value.noConfusion) (fun _ => Value.noConfusion));refine ⟨Sl.keep he (fun b hb2 => hb.block b hb2.2) (fun b hb2 => Nat.lt_of_lt_of_eq hb2.1 hb.size.symm) (fun _ _ h => h), Sl.keep hf (fun b hb2 => hb.block b (by have := hb2.1; omega)) (fun b hb2 => Nat.lt_of_lt_of_eq hb2.2 hb.size.symm) (fun _ _ h => h), h.nil, n, D, z1b a (hb.block _ (fun e => ?_)), hg⟩;subst e;obtain ⟨es, c, hh, -⟩ := a;have d : w.heap[M]? = some (.cells [.int .i64 x0, .int .i64 x1, .int .i64 x2, .int .i64 x3].toArray t (0, 0)) := hA;rw [d] at hh
 injection hh with hh; cases hh
theorem z0h (w : World) (p : Addr) : w.drew.cell? p = w.cell? p := rfl
theorem za1 {W : World} {R T : Nat} {t1 t2 : TypeId} (hR : Row W R t1 [.int .i64 0, .slice none 0 0, .slice none 0 0, .map none]) (hT : Row W T t2 [.int .i64 0, .int .i64 0, .int .i64 0, .int .i64 0]) (hne : R ≠ T) (v : Int) (ve vc : Value) (M : Nat) (r : Cli) : Sto W R T v ve vc M r := by
 have h2 : Row (putS W R v ve vc M) T t2 [.int .i64 0, .int .i64 0, .int .i64 0, .int .i64 0] := hT.keep ((z14 W R v ve vc M).block T (Ne.symm hne));have h3 := z3k hR v ve vc M;have h4 : Row (putT (putS W R v ve vc M) T r.id r.sq r.an r.vr) R t1 [.int .i64 v, ve, vc, .map (some M)] := h3.keep ((z19 _ T _ _ _ _).block R hne);have h5 := z8x h2 r.id r.sq r.an r.vr
 exact ⟨⟨hR.cell rfl, hR.cell rfl, hR.cell rfl, hR.cell rfl⟩, ⟨hR.thaw _, hR.thaw _, hR.thaw _, hR.thaw _⟩, ⟨h2.cell rfl, h2.cell rfl, h2.cell rfl, h2.cell rfl⟩, ⟨h2.thaw _, h2.thaw _, h2.thaw _, h2.thaw _⟩,
  ⟨h4.cell rfl, h4.cell rfl, h4.cell rfl, h4.cell rfl⟩, ⟨h5.cell rfl, h5.cell rfl, h5.cell rfl, h5.cell rfl⟩,
  fun p hp1 hp2 => ⟨(z0h _ _).trans (World.cell?_of_block ((z14 W R v ve vc M).block p.block hp1)), (z0h _ _).trans ((World.cell?_of_block ((z19 (putS W R v ve vc M) T r.id r.sq r.an r.vr).block p.block hp2)).trans (World.cell?_of_block ((z14 W R v ve vc M).block p.block hp1)))⟩⟩
theorem Sto.keepN {W : World} {R T : Nat} {v : Int} {ve vc : Value} {M : Nat} {r : Cli} (h : Sto W R T v ve vc M r) (p : Addr) (h1 : p.block ≠ R) (h2 : p.block ≠ T) : (putS W R v ve vc M).cell? p = W.cell? p /\ (putT (putS W R v ve vc M) T r.id r.sq r.an r.vr).cell? p = W.cell? p :=
 ⟨(z0h _ _).symm.trans (h.keep p h1 h2).1, (z0h _ _).symm.trans (h.keep p h1 h2).2⟩
structure Tail (v : Int) (es : List Ent) (cs : List Cli) (cl sq : Int) (ch : List Chg) (Lc : Nat) (v2 : Int) (es2 : List Ent) (L2 : Nat) (k2 : Int) : Prop where
 chg : ∀ (W : World) (e : Ending) (w' : World), z1z ⟨v, es, cs⟩ ch W e w' -> ∃ al c1 a2 c2 M2, e = .returned (.tuple #[.agg (stC v2 (.slice al L2 c1) (.slice a2 Lc c2) M2), .int .i64 k2]) /\ StAt w' ⟨v2, es2, cs⟩ al c1 a2 c2 M2 /\ Below W.heap.size W w'
 sto : ∀ (W : World) (al : Option Addr) (c1 : Nat) (a2 : Option Addr) (c2 M2 : Nat), StAt W ⟨v2, es2, cs⟩ al c1 a2 c2 M2 -> Calls Tryz.prog 83 #[.agg (stC v2 (.slice al L2 c1) (.slice a2 Lc c2) M2), clV ⟨cl, sq, k2, v2⟩] W (z3h ⟨v2, es2, putL ⟨cl, sq, k2, v2⟩ cs⟩ W)
 fin : exeF ⟨v, es, cs⟩ ⟨cl, sq, ch⟩ = (⟨v2, es2, putL ⟨cl, sq, k2, v2⟩ cs⟩, ⟨cl, sq, k2, v2⟩)
 len : L2 = es2.length
theorem tail_mk {v : Int} {es : List Ent} {cs : List Cli} {cl sq : Int} {ch : List Chg} {Lc : Nat} (hR : RgtM ⟨v, es, cs⟩) (hci : 1 <= cl /\ cl <= 1073741824) (hLc : Lc = cs.length) : ∃ v2 es2 L2 k2, Tail v es cs cl sq ch Lc v2 es2 L2 k2 := by
 subst hLc
 have hm : chgM ⟨v, es, cs⟩ (chgF v es ch) = ⟨(chgM ⟨v, es, cs⟩ (chgF v es ch)).vr, (chgM ⟨v, es, cs⟩ (chgF v es ch)).es, cs⟩ := by cases chgF v es ch <;> rfl
 have hk : (chgM ⟨v, es, cs⟩ (chgF v es ch)).es.length <= 1000 := by
  cases hk : chgF v es ch with
  | error k => have := (z10 hR.es).len; simp only at this; simp only [chgM]; omega
  | ok l => have := (z10 (chg_ok hk).1).len; simp only [chgM]; omega
 refine ⟨(chgM ⟨v, es, cs⟩ (chgF v es ch)).vr, (chgM ⟨v, es, cs⟩ (chgF v es ch)).es, (chgM ⟨v, es, cs⟩ (chgF v es ch)).es.length, chgE (chgF v es ch), ⟨fun W e w' h => ?_, fun W al c1 a2 c2 M2 h => ?_, exe_eq _ _, rfl⟩⟩
 ·obtain ⟨ae, ce, ac, cc, M, h1, h2, h3⟩ := zfp h
  exact ⟨ae, ce, ac, cc, M, h1, by rw [<- hm]; exact h2, h3⟩
 ·exact zbs W ⟨(chgM ⟨v, es, cs⟩ (chgF v es ch)).vr, (chgM ⟨v, es, cs⟩ (chgF v es ch)).es, cs⟩ al c1 a2 c2 M2 ⟨cl, sq, chgE (chgF v es ch), (chgM ⟨v, es, cs⟩ (chgF v es ch)).vr⟩ h hR.cs.srt hR.cs.len hk (fun x hx => (z3q.1 (hR.cs.ok x hx)).1) hci
theorem zb5 (w : World) (m : Mdl) (ae : Option Addr) (ce : Nat) (ac : Option Addr) (cc M : Nat) (c : Cmd) (b : Option Addr) (capc : Nat) (hst : StAt w m ae ce ac cc M) (hR : RgtM m) (hM : mayC c = true) (hC : SlH w (Old w) (.slice b c.ch.length capc) c.ch) (hFC : ∀ x, x ∈ c.ch -> FitE x.e) (hE : EnvC w) :
  Calls Tryz.prog 40 #[.agg (stC m.vr (.slice ae m.es.length ce) (.slice ac m.cs.length cc) M), .agg #[.int .i64 c.cl, .int .i64 c.sq, .slice b c.ch.length capc]] w (z7t (doF m c) w) := by
 obtain ⟨⟨aP, aQ⟩, ⟨bn, bo⟩, aR, aS⟩ := zdu.1 hM;have bq := Lib.hid hR;have bt := Lib.hid hst.lt;obtain ⟨n0, D, aJ, aK⟩ := hst.map;have aM := Lib.hid aK;have ay : m.es.length <= 200 /\ m.cs.length <= 16 := ⟨(z10 hR.es).len, hR.cs.len⟩;have az := hst.cs.len;have au := Lib.hid (fun W (h : Below w.heap.size w W) => zcz W m ae ce ac cc M b capc c.ch (hst.old h) (hC.old h) hFC hR (hE.below h));have O := Lib.hid (fun W (h : Below w.heap.size w W) => (hst.lt.blw h).at_ h.size);obtain ⟨v, es, cs⟩ := m;obtain ⟨cl, sq, ch⟩ := c;simp only at aP aQ bn bo aR aS ay az au O aK aM aJ ⊢;have aT := Lib.hid aJ;have aU := Lib.hid hst.cs;obtain ⟨Le, E⟩ := nmd (es.length);obtain ⟨Lc, y⟩ := nmd (cs.length);obtain ⟨Lh, aV⟩ := nmd (ch.length)
 have bR : Lc <= 16 := by have := y.out; omega
 have bN : Lc <= cc := by have := y.out; omega
 obtain ⟨v2, bS, L2, k2, ht⟩ := tail_mk (sq := sq) (ch := ch) hR ⟨aP, aQ⟩ y.out;have HT := Lib.hid ht;clear ht;have aW : Hid (keyOf Tryz.prog 3 (.int .i64 cl) = some (kI cl)) := Lib.hid (keyOf_int_mk Tryz.underlying3 (wfI (by omega) (by omega)));obtain ⟨W1, F⟩ := nmd ((((w.alloc (.cells (stC v (.slice ae Le ce) (.slice ac Lc cc) M) 73)).alloc (.cells #[.int .i64 cl, .int .i64 sq, .slice b Lh capc] 28)).alloc (.cells #[.int .i64 0, .slice none 0 0, .slice none 0 0, .map none] 73)).alloc (.cells #[.int .i64 0, .int .i64 0, .int .i64 0, .int .i64 0] 32));have bu : Hid (W1.heap.size = w.heap.size + 4) := Lib.hid (by rw [F.out]; simp);have T : Hid (Below w.heap.size w W1) := Lib.hid (by rw [F.out]; exact (z4q w _ _ _).alloc (by simp; omega) _);have u : Hid (Row W1 w.heap.size 73 [.int .i64 v, .slice ae Le ce, .slice ac Lc cc, .map (some M)]) := Lib.hid (by rw [F.out]; exact (((z02 w (stC v (.slice ae Le ce) (.slice ac Lc cc) M) _).alloc _).alloc _).alloc _)
 have J : Hid (Row W1 (w.heap.size + 1) 28 [.int .i64 cl, .int .i64 sq, .slice b Lh capc]) := Lib.hid (by
  rw [F.out];have h := ((z02 (w.alloc (.cells (stC v (.slice ae Le ce) (.slice ac Lc cc) M) 73)) #[.int .i64 cl, .int .i64 sq, .slice b Lh capc] 28).alloc (.cells #[.int .i64 0, .slice none 0 0, .slice none 0 0, .map none] 73)).alloc (.cells #[.int .i64 0, .int .i64 0, .int .i64 0, .int .i64 0] 32)
  simpa only [World.size_alloc] using h)
 have ag : Hid (Row W1 (w.heap.size + 1 + 1) 73 [.int .i64 0, .slice none 0 0, .slice none 0 0, .map none]) := Lib.hid (by
  rw [F.out];have h := (z02 ((w.alloc (.cells (stC v (.slice ae Le ce) (.slice ac Lc cc) M) 73)).alloc (.cells #[.int .i64 cl, .int .i64 sq, .slice b Lh capc] 28)) #[.int .i64 0, .slice none 0 0, .slice none 0 0, .map none] 73).alloc (.cells #[.int .i64 0, .int .i64 0, .int .i64 0, .int .i64 0] 32)
  simpa only [World.size_alloc] using h)
 have ah : Hid (Row W1 (w.heap.size + 1 + 1 + 1) 32 [.int .i64 0, .int .i64 0, .int .i64 0, .int .i64 0]) := Lib.hid (by
  rw [F.out];have h := z02 (((w.alloc (.cells (stC v (.slice ae Le ce) (.slice ac Lc cc) M) 73)).alloc (.cells #[.int .i64 cl, .int .i64 sq, .slice b Lh capc] 28)).alloc (.cells #[.int .i64 0, .slice none 0 0, .slice none 0 0, .map none] 73)) #[.int .i64 0, .int .i64 0, .int .i64 0, .int .i64 0] 32
  simpa only [World.size_alloc] using h)
 have bv : Hid (OMm W1 M n0 D) := Lib.hid (z1b aT.out (T.out.block _ bt.out.lt));have aw : Hid (OMm ((((w.alloc (.cells (stC v (.slice ae Le ce) (.slice ac Lc cc) M) 73)).alloc (.cells #[.int .i64 cl, .int .i64 sq, .slice b Lh capc] 28)).alloc (.cells #[.int .i64 0, .slice none 0 0, .slice none 0 0, .map none] 73)).alloc (.cells #[.int .i64 0, .int .i64 0, .int .i64 0, .int .i64 0] 32)) M n0 D) := Lib.hid (by rw [<- F.out]; exact bv.out)
 have a3 : ((((w.alloc (.cells (stC v (.slice ae Le ce) (.slice ac Lc cc) M) 73)).alloc (.cells #[.int .i64 cl, .int .i64 sq, .slice b Lh capc] 28)).alloc (.cells #[.int .i64 0, .slice none 0 0, .slice none 0 0, .map none] 73)).alloc (.cells #[.int .i64 0, .int .i64 0, .int .i64 0, .int .i64 0] 32)).cell? ⟨w.heap.size, 3, none⟩ = some (.map (some M)) := by rw [<- F.out]; exact u.out.cell rfl
 have b0 : ((((w.alloc (.cells (stC v (.slice ae Le ce) (.slice ac Lc cc) M) 73)).alloc (.cells #[.int .i64 cl, .int .i64 sq, .slice b Lh capc] 28)).alloc (.cells #[.int .i64 0, .slice none 0 0, .slice none 0 0, .map none] 73)).alloc (.cells #[.int .i64 0, .int .i64 0, .int .i64 0, .int .i64 0] 32)).cell? ⟨w.heap.size + 1, 0, none⟩ = some (.int .i64 cl) := by rw [<- F.out]; exact J.out.cell rfl
 rw [<- E.out, <- y.out, <- aV.out];rw [<- E.out, <- y.out, <- aV.out] at au;clear hst hR hM hC hFC hE aJ aK ay az aR aS
 go_enter Tryz.func40, Tryz.ntmps40
 by_cases C : Maps.has D (kI cl) = true
 focus
  obtain ⟨j, x, hx, aN, aA⟩ := ze8 aM.out C;have bw := Lib.hid aA;have aX := Lib.hid hx;have bz := Lib.hid aN;have ai := Lib.hid C;have U := Lib.hid (z9g bq.out.cs.srt hx aN)
  have bT : j < Lc := by
   have h9 := (List.getElem?_eq_some_iff.1 hx).1
   have := y.out; omega
  clear C hx aN aA
  go_wp2_with (at_lookup; refine wpList_lookup_own_ok_int _ rfl _ _ 71 rfl 3 3 .i64 lawI Tryz.underlying71 Tryz.underlying3 (zeroI _) M _ _ rfl aw.out _ _ rfl aW.out ?_; intro cw hat hwc; rw [ai.out]; (have bA : cw = (j : Int) := (by rw [bw.out] at hat; injection hat with h1; injection h1 with h2 h3; exact h3.symm)); subst bA; clear hat hwc)
  rw [<- F.out];clear a3 b0 aw;obtain ⟨xi, xq, xa, xv⟩ := x;simp only at bz U;obtain ⟨b1, a, rfl, bB, -⟩ := SlL.get (n := cs.length) aU.out aX.out;have bO : b1 < w.heap.size := bB
  have aj : Hid (∀ W, Below W1.heap.size W1 W -> ((W.cell? ⟨w.heap.size, 0, none⟩ = some (.int .i64 v) /\ W.cell? ⟨w.heap.size, 1, none⟩ = some (.slice ae Le ce) /\ W.cell? ⟨w.heap.size, 2, none⟩ = some (.slice (some ⟨b1, a, none⟩) Lc cc) /\ W.cell? ⟨w.heap.size, 3, none⟩ = some (.map (some M))) /\
    (W.cell? ⟨b1, a + j * 4, none⟩ = some (.int .i64 xi) /\ W.cell? ⟨b1, a + j * 4 + 1, none⟩ = some (.int .i64 xq) /\ W.cell? ⟨b1, a + j * 4 + 2, none⟩ = some (.int .i64 xa) /\ W.cell? ⟨b1, a + j * 4 + 3, none⟩ = some (.int .i64 xv))) /\
    W.cell? ⟨w.heap.size + 1, 1, none⟩ = some (.int .i64 sq) /\ W.cell? ⟨w.heap.size + 1 + 1, 0, none⟩ = some (.int .i64 0) /\ W.cell? ⟨w.heap.size + 1 + 1, 1, none⟩ = some (.slice none 0 0) /\ W.cell? ⟨w.heap.size + 1 + 1, 2, none⟩ = some (.slice none 0 0) /\ W.cell? ⟨w.heap.size + 1 + 1, 3, none⟩ = some (.map none) /\ W.frozen? ⟨w.heap.size + 1 + 1, 0, none⟩ = false /\ W.frozen? ⟨w.heap.size + 1 + 1, 1, none⟩ = false /\ W.frozen? ⟨w.heap.size + 1 + 1, 2, none⟩ = false /\ W.frozen? ⟨w.heap.size + 1 + 1, 3, none⟩ = false /\ W.cell? ⟨w.heap.size + 1 + 1 + 1, 0, none⟩ = some (.int .i64 0) /\ W.cell? ⟨w.heap.size + 1 + 1 + 1, 1, none⟩ = some (.int .i64 0) /\ W.cell? ⟨w.heap.size + 1 + 1 + 1, 2, none⟩ = some (.int .i64 0) /\ W.cell? ⟨w.heap.size + 1 + 1 + 1, 3, none⟩ = some (.int .i64 0) /\ W.frozen? ⟨w.heap.size + 1 + 1 + 1, 0, none⟩ = false /\ W.frozen? ⟨w.heap.size + 1 + 1 + 1, 1, none⟩ = false /\ W.frozen? ⟨w.heap.size + 1 + 1 + 1, 2, none⟩ = false /\ W.frozen? ⟨w.heap.size + 1 + 1 + 1, 3, none⟩ = false) := Lib.hid (fun W h => by
   have ra := u.out.below h;have rr := ag.out.below h;have rt := ah.out.below h;obtain ⟨b2, off2, bC, -, x0, x1, x2, x3⟩ := (O.out W (z00 T.out h)).cs.get aX.out
   obtain ⟨rfl, rfl⟩ : b1 = b2 /\ a = off2 := by injection bC with h1; injection h1 with h2 h3; exact ⟨h2, h3⟩
   exact ⟨⟨⟨ra.cell rfl, ra.cell rfl, ra.cell rfl, ra.cell rfl⟩, x0, x1, x2, x3⟩, (J.out.below h).cell rfl, rr.cell rfl, rr.cell rfl, rr.cell rfl, rr.cell rfl, rr.thaw _, rr.thaw _, rr.thaw _, rr.thaw _, rt.cell rfl, rt.cell rfl, rt.cell rfl, rt.cell rfl, rt.thaw _, rt.thaw _, rt.thaw _, rt.thaw _⟩)
  have aY : ¬ (w.heap.size + 1 + 1 = b1) /\ ¬ (w.heap.size + 1 + 1 + 1 = b1) := ⟨by omega, by omega⟩;obtain ⟨aB, aC⟩ := aY
  have aD : ¬ (w.heap.size + 1 + 1 = w.heap.size) := by omega
  have aE : ¬ (w.heap.size + 1 + 1 + 1 = w.heap.size) := by omega
  obtain ⟨⟨⟨a0, a1, a2, a3⟩, x0, x1, x2, x3⟩, c1, -⟩ := aj.out W1 (Below.refl _ _)
  by_cases hxq : xq = sq
  ·subst hxq
   have R := Lib.hid (zic (m := ⟨v, es, cs⟩) (c := ⟨cl, xq, ch⟩) U.out rfl);go_wp2
   go_quiet (fail)
   have t := Lib.hid (z0a (Below.refl W1.heap.size W1) nq)
   generalize W1.drewN nq = W2 at *
   clear a0 a1 a2 a3 x0 x1 x2 x3 c1;have A := (aj.out _ t.out.drew).1;have k := Lib.hid (za1 (ag.out.below t.out) (ah.out.below t.out) (by omega) v (.slice ae Le ce) (.slice (some ⟨b1, a, none⟩) Lc cc) M ⟨xi, xq, xa, xv⟩)
   have V : Hid (((putS W2 (w.heap.size + 1 + 1) v (.slice ae Le ce) (.slice (some ⟨b1, a, none⟩) Lc cc) M).drew.cell? ⟨w.heap.size, 0, none⟩ = some (.int .i64 v) /\ (putS W2 (w.heap.size + 1 + 1) v (.slice ae Le ce) (.slice (some ⟨b1, a, none⟩) Lc cc) M).drew.cell? ⟨w.heap.size, 1, none⟩ = some (.slice ae Le ce) /\ (putS W2 (w.heap.size + 1 + 1) v (.slice ae Le ce) (.slice (some ⟨b1, a, none⟩) Lc cc) M).drew.cell? ⟨w.heap.size, 2, none⟩ = some (.slice (some ⟨b1, a, none⟩) Lc cc) /\ (putS W2 (w.heap.size + 1 + 1) v (.slice ae Le ce) (.slice (some ⟨b1, a, none⟩) Lc cc) M).drew.cell? ⟨w.heap.size, 3, none⟩ = some (.map (some M))) /\ ((putS W2 (w.heap.size + 1 + 1) v (.slice ae Le ce) (.slice (some ⟨b1, a, none⟩) Lc cc) M).drew.cell? ⟨b1, a + j * 4, none⟩ = some (.int .i64 xi) /\ (putS W2 (w.heap.size + 1 + 1) v (.slice ae Le ce) (.slice (some ⟨b1, a, none⟩) Lc cc) M).drew.cell? ⟨b1, a + j * 4 + 1, none⟩ = some (.int .i64 xq) /\ (putS W2 (w.heap.size + 1 + 1) v (.slice ae Le ce) (.slice (some ⟨b1, a, none⟩) Lc cc) M).drew.cell? ⟨b1, a + j * 4 + 2, none⟩ = some (.int .i64 xa) /\ (putS W2 (w.heap.size + 1 + 1) v (.slice ae Le ce) (.slice (some ⟨b1, a, none⟩) Lc cc) M).drew.cell? ⟨b1, a + j * 4 + 3, none⟩ = some (.int .i64 xv))) := Lib.hid (by
    have f := k.out.keep;obtain ⟨⟨k0, k1, k2, k3⟩, l0, l1, l2, l3⟩ := A
    have g := fun i => f ⟨w.heap.size, i, none⟩ (Ne.symm aD) (Ne.symm aE)
    have l := fun i => f ⟨b1, i, none⟩ (Ne.symm aB) (Ne.symm aC)
    exact ⟨⟨(g 0).1.trans k0, (g 1).1.trans k1, (g 2).1.trans k2, (g 3).1.trans k3⟩, (l (a + j * 4)).1.trans l0, (l (a + j * 4 + 1)).1.trans l1, (l (a + j * 4 + 2)).1.trans l2, (l (a + j * 4 + 3)).1.trans l3⟩)
   have X : Hid (((putT (putS W2 (w.heap.size + 1 + 1) v (.slice ae Le ce) (.slice (some ⟨b1, a, none⟩) Lc cc) M) (w.heap.size + 1 + 1 + 1) xi xq xa xv).drew.cell? ⟨w.heap.size, 0, none⟩ = some (.int .i64 v) /\ (putT (putS W2 (w.heap.size + 1 + 1) v (.slice ae Le ce) (.slice (some ⟨b1, a, none⟩) Lc cc) M) (w.heap.size + 1 + 1 + 1) xi xq xa xv).drew.cell? ⟨w.heap.size, 1, none⟩ = some (.slice ae Le ce) /\ (putT (putS W2 (w.heap.size + 1 + 1) v (.slice ae Le ce) (.slice (some ⟨b1, a, none⟩) Lc cc) M) (w.heap.size + 1 + 1 + 1) xi xq xa xv).drew.cell? ⟨w.heap.size, 2, none⟩ = some (.slice (some ⟨b1, a, none⟩) Lc cc) /\ (putT (putS W2 (w.heap.size + 1 + 1) v (.slice ae Le ce) (.slice (some ⟨b1, a, none⟩) Lc cc) M) (w.heap.size + 1 + 1 + 1) xi xq xa xv).drew.cell? ⟨w.heap.size, 3, none⟩ = some (.map (some M))) /\ ((putT (putS W2 (w.heap.size + 1 + 1) v (.slice ae Le ce) (.slice (some ⟨b1, a, none⟩) Lc cc) M) (w.heap.size + 1 + 1 + 1) xi xq xa xv).drew.cell? ⟨b1, a + j * 4, none⟩ = some (.int .i64 xi) /\ (putT (putS W2 (w.heap.size + 1 + 1) v (.slice ae Le ce) (.slice (some ⟨b1, a, none⟩) Lc cc) M) (w.heap.size + 1 + 1 + 1) xi xq xa xv).drew.cell? ⟨b1, a + j * 4 + 1, none⟩ = some (.int .i64 xq) /\ (putT (putS W2 (w.heap.size + 1 + 1) v (.slice ae Le ce) (.slice (some ⟨b1, a, none⟩) Lc cc) M) (w.heap.size + 1 + 1 + 1) xi xq xa xv).drew.cell? ⟨b1, a + j * 4 + 2, none⟩ = some (.int .i64 xa) /\ (putT (putS W2 (w.heap.size + 1 + 1) v (.slice ae Le ce) (.slice (some ⟨b1, a, none⟩) Lc cc) M) (w.heap.size + 1 + 1 + 1) xi xq xa xv).drew.cell? ⟨b1, a + j * 4 + 3, none⟩ = some (.int .i64 xv))) := Lib.hid (by
    have f := k.out.keep;obtain ⟨⟨k0, k1, k2, k3⟩, l0, l1, l2, l3⟩ := A
    have g := fun i => f ⟨w.heap.size, i, none⟩ (Ne.symm aD) (Ne.symm aE)
    have l := fun i => f ⟨b1, i, none⟩ (Ne.symm aB) (Ne.symm aC)
    exact ⟨⟨(g 0).2.trans k0, (g 1).2.trans k1, (g 2).2.trans k2, (g 3).2.trans k3⟩, (l (a + j * 4)).2.trans l0, (l (a + j * 4 + 1)).2.trans l1, (l (a + j * 4 + 2)).2.trans l2, (l (a + j * 4 + 3)).2.trans l3⟩)
   have G : Hid (z7t (doF ⟨v, es, cs⟩ ⟨cl, xq, ch⟩) w (.returned (.tuple #[.agg (stC v (.slice ae Le ce) (.slice (some ⟨b1, a, none⟩) Lc cc) M), clV ⟨xi, xq, xa, xv⟩])) (putT (putS W2 (w.heap.size + 1 + 1) v (.slice ae Le ce) (.slice (some ⟨b1, a, none⟩) Lc cc) M) (w.heap.size + 1 + 1 + 1) xi xq xa xv).drew) := Lib.hid (by
    have hb : Below w.heap.size w (putT (putS W2 (w.heap.size + 1 + 1) v (.slice ae Le ce) (.slice (some ⟨b1, a, none⟩) Lc cc) M) (w.heap.size + 1 + 1 + 1) xi xq xa xv).drew := (((z00 T.out t.out).trans ((z14 _ _ _ _ _ _).below (B := w.heap.size) (by omega))).trans ((z19 _ _ _ _ _ _).below (B := w.heap.size) (by omega))).drew;rw [R.out, E.out, y.out]
    exact ⟨ae, ce, _, cc, M, rfl, O.out _ (by rw [<- E.out, <- y.out]; exact hb), by rw [<- E.out, <- y.out]; exact hb⟩)
   go_wp2;refine wp_region_noPanic ?_;refine wp_region_held_drew (S := fun W => (W.cell? ⟨w.heap.size, 0, none⟩ = some (.int .i64 v) /\ W.cell? ⟨w.heap.size, 1, none⟩ = some (.slice ae Le ce) /\ W.cell? ⟨w.heap.size, 2, none⟩ = some (.slice (some ⟨b1, a, none⟩) Lc cc) /\ W.cell? ⟨w.heap.size, 3, none⟩ = some (.map (some M))) /\ (W.cell? ⟨b1, a + j * 4, none⟩ = some (.int .i64 xi) /\ W.cell? ⟨b1, a + j * 4 + 1, none⟩ = some (.int .i64 xq) /\ W.cell? ⟨b1, a + j * 4 + 2, none⟩ = some (.int .i64 xa) /\ W.cell? ⟨b1, a + j * 4 + 3, none⟩ = some (.int .i64 xv))) (by kernel_rfl) ?_ (fun hz0 => ?_)
   ·exact A
   refine wT 0 { dst := some 32, op := Go.Op.load 73 (Go.Operand.tmp 2), type := 73, pos := "state.go:31", after := #[], guard := none } (v := ?_) (Or.inl ⟨by rfl, ?_⟩) ?_
   rotate_left
   ·(intro w hSw; (try dsimp only at hSw); go_simp) <;> with_reducible rfl
   simp only [Act.put, la, lb, lc];refine wT 1 { dst := some 33, op := Go.Op.fieldAddr 73 (Go.Operand.tmp 2) 0, type := 0, pos := "state.go:31", after := #[{ on := 7, ground := Go.Ground.gcOnly Go.Departure.lateStores }], guard := none } (v := ?_) (Or.inl ⟨by rfl, ?_⟩) ?_
   rotate_left
   ·(intro w hSw; (try dsimp only at hSw); go_simp) <;> with_reducible rfl
   simp only [Act.put, la, lb, lc];refine wT 2 { dst := some 34, op := Go.Op.fieldAddr 25 (Go.Operand.tmp 33) 2, type := 0, pos := "state.go:31", after := #[{ on := 1, ground := Go.Ground.data }, { on := 7, ground := Go.Ground.gcOnly Go.Departure.lateStores }], guard := none } (v := ?_) (Or.inl ⟨by rfl, ?_⟩) ?_
   rotate_left
   ·(intro w hSw; (try dsimp only at hSw); go_simp) <;> with_reducible rfl
   simp only [Act.put, la, lb, lc];refine wT 3 { dst := some 35, op := Go.Op.load 23 (Go.Operand.tmp 34), type := 23, pos := "state.go:31", after := #[{ on := 2, ground := Go.Ground.data }, { on := 7, ground := Go.Ground.gcOnly Go.Departure.lateStores }], guard := none } (v := ?_) (Or.inl ⟨by rfl, ?_⟩) ?_
   rotate_left
   ·(intro w hSw; (try dsimp only at hSw); go_simp) <;> with_reducible rfl
   simp only [Act.put, la, lb, lc];refine wT 4 { dst := some 36, op := Go.Op.move (Go.Operand.tmp 6), type := 3, pos := "state.go:31", after := #[{ on := 7, ground := Go.Ground.gcOnly Go.Departure.lateStores }], guard := none } (v := ?_) (Or.inl ⟨by rfl, ?_⟩) ?_
   rotate_left
   ·(intro w hSw; (try dsimp only at hSw); go_simp) <;> with_reducible rfl
   simp only [Act.put, la, lb, lc];refine wT 5 { dst := some 37, op := Go.Op.indexAddr 23 (Go.Operand.tmp 35) (Go.Operand.tmp 36), type := 0, pos := "state.go:31", after := #[{ on := 3, ground := Go.Ground.data }, { on := 4, ground := Go.Ground.data }, { on := 7, ground := Go.Ground.gcOnly Go.Departure.lateStores }], guard := none } (v := ?_) (Or.inl ⟨by rfl, ?_⟩) ?_
   rotate_left
   ·(intro w hSw; (try dsimp only at hSw); go_simp) <;> with_reducible rfl
   simp only [Act.put, la, lb, lc];refine wT 6 { dst := some 38, op := Go.Op.load 32 (Go.Operand.tmp 37), type := 32, pos := "state.go:31", after := #[{ on := 5, ground := Go.Ground.data }, { on := 7, ground := Go.Ground.gcOnly Go.Departure.lateStores }], guard := none } (v := ?_) (Or.inl ⟨by rfl, ?_⟩) ?_
   rotate_left
   ·(intro w hSw; (try dsimp only at hSw); go_simp) <;> with_reducible rfl
   simp only [Act.put, la, lb, lc];have d := k.out;obtain ⟨r0, r1, r2, r3⟩ := d.c1;obtain ⟨s0, s1, s2, s3⟩ := d.f1;clear d A;refine wR 7 { dst := none, op := Go.Op.store 73 (Go.Operand.tmp 4) (Go.Operand.tmp 32), type := 0, pos := "state.go:31", after := #[{ on := 0, ground := Go.Ground.data }, { on := 0, ground := Go.Ground.phase }, { on := 1, ground := Go.Ground.textOnly Go.Departure.lateStores }, { on := 2, ground := Go.Ground.textOnly Go.Departure.lateStores }, { on := 3, ground := Go.Ground.textOnly Go.Departure.lateStores }, { on := 4, ground := Go.Ground.textOnly Go.Departure.lateStores }, { on := 5, ground := Go.Ground.textOnly Go.Departure.lateStores }, { on := 6, ground := Go.Ground.textOnly Go.Departure.lateStores }], guard := none } (fun K hK => ?_)
   go_simp
   refine hK.out _ _ ?_ (fun hz1 => ?_)
   ·exact V.out
   clear hK K hz0 r0 r1 r2 r3 s0 s1 s2 s3
   try simp only [Act.put, la, lb, lc]
   have d := k.out;obtain ⟨r0, r1, r2, r3⟩ := d.c2;obtain ⟨s0, s1, s2, s3⟩ := d.f2;clear d;refine wR 8 { dst := none, op := Go.Op.store 32 (Go.Operand.tmp 5) (Go.Operand.tmp 38), type := 0, pos := "state.go:31", after := #[{ on := 6, ground := Go.Ground.data }, { on := 7, ground := Go.Ground.chain }, { on := 0, ground := Go.Ground.phase }, { on := 1, ground := Go.Ground.phase }, { on := 2, ground := Go.Ground.phase }, { on := 3, ground := Go.Ground.phase }, { on := 4, ground := Go.Ground.phase }, { on := 5, ground := Go.Ground.phase }, { on := 6, ground := Go.Ground.phase }, { on := 7, ground := Go.Ground.phase }], guard := none } (fun K hK => ?_)
   go_simp
   refine hK.out _ _ ?_ (fun hz2 => ?_)
   ·exact X.out
   clear hK K hz1 r0 r1 r2 r3 s0 s1 s2 s3
   try simp only [Act.put, la, lb, lc]
   have d := k.out;obtain ⟨f0, f1, f2, f3⟩ := d.g1;obtain ⟨g0, g1, g2, g3⟩ := d.g2;simp only at g0 g1 g2 g3 f0 f1 f2 f3;clear d;refine wpAnyH_done (by kernel_rfl) ?_ _;refine NoPanic.normal ?_;go_wp2;exact bodyPost_ret (v := .tuple #[.agg (stC v (.slice ae Le ce) (.slice (some ⟨b1, a, none⟩) Lc cc) M), clV ⟨xi, xq, xa, xv⟩]) (by simp [results, Tryz.results40, go_sem, f0, f1, f2, f3, g0, g1, g2, g3]) rfl G.out
  by_cases hlt : sq < xq
  ·have R := Lib.hid (zel (m := ⟨v, es, cs⟩) (c := ⟨cl, sq, ch⟩) U.out hxq hlt)
   have bD : (xq == sq) = false := by rw [beq_eq_false_iff_ne]; exact hxq
   clear hxq;go_wp2
   go_quiet (fail)
   have N := Lib.hid (z0a (Below.refl W1.heap.size W1) nq)
   generalize W1.drewN nq = Wq at *
   clear a0 a1 a2 a3 x0 x1 x2 x3 c1;obtain ⟨⟨⟨a0, a1, a2, a3⟩, x0, x1, x2, x3⟩, c1, -⟩ := aj.out Wq N.out;go_wp2
   go_quiet (fail)
   have t := Lib.hid (z0a N.out nq)
   generalize Wq.drewN nq = W2 at *
   clear a0 a1 a2 a3 x0 x1 x2 x3 c1;have z : Hid (∀ W, Below W1.heap.size W1 W -> (W.cell? ⟨w.heap.size, 0, none⟩ = some (.int .i64 v) /\ W.cell? ⟨w.heap.size, 1, none⟩ = some (.slice ae Le ce) /\ W.cell? ⟨w.heap.size, 2, none⟩ = some (.slice (some ⟨b1, a, none⟩) Lc cc) /\ W.cell? ⟨w.heap.size, 3, none⟩ = some (.map (some M))) /\ (W.cell? ⟨w.heap.size + 1, 0, none⟩ = some (.int .i64 cl) /\ W.cell? ⟨w.heap.size + 1, 1, none⟩ = some (.int .i64 sq) /\ W.cell? ⟨w.heap.size + 1, 2, none⟩ = some (.slice b Lh capc))) := Lib.hid (fun W h => ⟨⟨(u.out.below h).cell rfl, (u.out.below h).cell rfl, (u.out.below h).cell rfl, (u.out.below h).cell rfl⟩, (J.out.below h).cell rfl, (J.out.below h).cell rfl, (J.out.below h).cell rfl⟩);have A := z.out _ t.out.drew
   go_wp2_with fail
   refine wp_region_noPanic ?_;refine wp_region_held_drew (S := fun W => (W.cell? ⟨w.heap.size, 0, none⟩ = some (.int .i64 v) /\ W.cell? ⟨w.heap.size, 1, none⟩ = some (.slice ae Le ce) /\ W.cell? ⟨w.heap.size, 2, none⟩ = some (.slice (some ⟨b1, a, none⟩) Lc cc) /\ W.cell? ⟨w.heap.size, 3, none⟩ = some (.map (some M))) /\ (W.cell? ⟨w.heap.size + 1, 0, none⟩ = some (.int .i64 cl) /\ W.cell? ⟨w.heap.size + 1, 1, none⟩ = some (.int .i64 sq) /\ W.cell? ⟨w.heap.size + 1, 2, none⟩ = some (.slice b Lh capc))) (by kernel_rfl) ?_ (fun hz0 => ?_)
   ·exact A
   refine wT 0 { dst := some 53, op := Go.Op.load 73 (Go.Operand.tmp 2), type := 73, pos := "state.go:33", after := #[], guard := none } (v := ?_) (Or.inl ⟨by rfl, ?_⟩) ?_
   rotate_left
   ·(intro w hSw; (try dsimp only at hSw); go_simp) <;> with_reducible rfl
   simp only [Act.put, la, lb, lc];refine wT 1 { dst := some 54, op := Go.Op.load 28 (Go.Operand.tmp 3), type := 28, pos := "state.go:33", after := #[], guard := none } (v := ?_) (Or.inl ⟨by rfl, ?_⟩) ?_
   rotate_left
   ·(intro w hSw; (try dsimp only at hSw); go_simp) <;> with_reducible rfl
   simp only [Act.put, la, lb, lc];refine wR 2 { dst := some 55, op := Go.Op.call { callee := Go.Callee.value (Go.Operand.func 81), args := #[Go.Operand.tmp 54, Go.Operand.const (Go.Value.int Go.IntKind.i64 121)], argTypes := #[28, 30] }, type := 32, pos := "state.go:33", after := #[{ on := 1, ground := Go.Ground.data }], guard := none } (fun K hK => ?_)
   go_simp
   refine (z74 _ cl sq _ 121).mono ?_;rintro e w5 ⟨rfl, aq⟩;have s : Hid (Below W1.heap.size W1 w5) := Lib.hid (z00 t.out.drew aq)
   go_wp2_with fail
   refine hK.out _ _ ?_ (fun hz1 => ?_)
   ·exact z.out _ s.out
   clear hK K hz0 aq
   try simp only [Act.put, la, lb, lc]
   have k := Lib.hid (za1 (ag.out.below s.out) (ah.out.below s.out) (by omega) v (.slice ae Le ce) (.slice (some ⟨b1, a, none⟩) Lc cc) M ⟨cl, sq, 121, 0⟩)
   have V : Hid (((putS w5 (w.heap.size + 1 + 1) v (.slice ae Le ce) (.slice (some ⟨b1, a, none⟩) Lc cc) M).cell? ⟨w.heap.size, 0, none⟩ = some (.int .i64 v) /\ (putS w5 (w.heap.size + 1 + 1) v (.slice ae Le ce) (.slice (some ⟨b1, a, none⟩) Lc cc) M).cell? ⟨w.heap.size, 1, none⟩ = some (.slice ae Le ce) /\ (putS w5 (w.heap.size + 1 + 1) v (.slice ae Le ce) (.slice (some ⟨b1, a, none⟩) Lc cc) M).cell? ⟨w.heap.size, 2, none⟩ = some (.slice (some ⟨b1, a, none⟩) Lc cc) /\ (putS w5 (w.heap.size + 1 + 1) v (.slice ae Le ce) (.slice (some ⟨b1, a, none⟩) Lc cc) M).cell? ⟨w.heap.size, 3, none⟩ = some (.map (some M))) /\ ((putS w5 (w.heap.size + 1 + 1) v (.slice ae Le ce) (.slice (some ⟨b1, a, none⟩) Lc cc) M).cell? ⟨w.heap.size + 1, 0, none⟩ = some (.int .i64 cl) /\ (putS w5 (w.heap.size + 1 + 1) v (.slice ae Le ce) (.slice (some ⟨b1, a, none⟩) Lc cc) M).cell? ⟨w.heap.size + 1, 1, none⟩ = some (.int .i64 sq) /\ (putS w5 (w.heap.size + 1 + 1) v (.slice ae Le ce) (.slice (some ⟨b1, a, none⟩) Lc cc) M).cell? ⟨w.heap.size + 1, 2, none⟩ = some (.slice b Lh capc))) := Lib.hid (by
    have f := k.out.keepN;obtain ⟨⟨k0, k1, k2, k3⟩, l0, l1, l2⟩ := z.out _ s.out
    have g := fun i => f ⟨w.heap.size, i, none⟩ (by show w.heap.size ≠ w.heap.size + 1 + 1; omega) (by show w.heap.size ≠ w.heap.size + 1 + 1 + 1; omega)
    have l := fun i => f ⟨w.heap.size + 1, i, none⟩ (by show w.heap.size + 1 ≠ w.heap.size + 1 + 1; omega) (by show w.heap.size + 1 ≠ w.heap.size + 1 + 1 + 1; omega)
    exact ⟨⟨(g 0).1.trans k0, (g 1).1.trans k1, (g 2).1.trans k2, (g 3).1.trans k3⟩, (l 0).1.trans l0, (l 1).1.trans l1, (l 2).1.trans l2⟩)
   have X : Hid (((putT (putS w5 (w.heap.size + 1 + 1) v (.slice ae Le ce) (.slice (some ⟨b1, a, none⟩) Lc cc) M) (w.heap.size + 1 + 1 + 1) cl sq 121 0).cell? ⟨w.heap.size, 0, none⟩ = some (.int .i64 v) /\ (putT (putS w5 (w.heap.size + 1 + 1) v (.slice ae Le ce) (.slice (some ⟨b1, a, none⟩) Lc cc) M) (w.heap.size + 1 + 1 + 1) cl sq 121 0).cell? ⟨w.heap.size, 1, none⟩ = some (.slice ae Le ce) /\ (putT (putS w5 (w.heap.size + 1 + 1) v (.slice ae Le ce) (.slice (some ⟨b1, a, none⟩) Lc cc) M) (w.heap.size + 1 + 1 + 1) cl sq 121 0).cell? ⟨w.heap.size, 2, none⟩ = some (.slice (some ⟨b1, a, none⟩) Lc cc) /\ (putT (putS w5 (w.heap.size + 1 + 1) v (.slice ae Le ce) (.slice (some ⟨b1, a, none⟩) Lc cc) M) (w.heap.size + 1 + 1 + 1) cl sq 121 0).cell? ⟨w.heap.size, 3, none⟩ = some (.map (some M))) /\ ((putT (putS w5 (w.heap.size + 1 + 1) v (.slice ae Le ce) (.slice (some ⟨b1, a, none⟩) Lc cc) M) (w.heap.size + 1 + 1 + 1) cl sq 121 0).cell? ⟨w.heap.size + 1, 0, none⟩ = some (.int .i64 cl) /\ (putT (putS w5 (w.heap.size + 1 + 1) v (.slice ae Le ce) (.slice (some ⟨b1, a, none⟩) Lc cc) M) (w.heap.size + 1 + 1 + 1) cl sq 121 0).cell? ⟨w.heap.size + 1, 1, none⟩ = some (.int .i64 sq) /\ (putT (putS w5 (w.heap.size + 1 + 1) v (.slice ae Le ce) (.slice (some ⟨b1, a, none⟩) Lc cc) M) (w.heap.size + 1 + 1 + 1) cl sq 121 0).cell? ⟨w.heap.size + 1, 2, none⟩ = some (.slice b Lh capc))) := Lib.hid (by
    have f := k.out.keepN;obtain ⟨⟨k0, k1, k2, k3⟩, l0, l1, l2⟩ := z.out _ s.out
    have g := fun i => f ⟨w.heap.size, i, none⟩ (by show w.heap.size ≠ w.heap.size + 1 + 1; omega) (by show w.heap.size ≠ w.heap.size + 1 + 1 + 1; omega)
    have l := fun i => f ⟨w.heap.size + 1, i, none⟩ (by show w.heap.size + 1 ≠ w.heap.size + 1 + 1; omega) (by show w.heap.size + 1 ≠ w.heap.size + 1 + 1 + 1; omega)
    exact ⟨⟨(g 0).2.trans k0, (g 1).2.trans k1, (g 2).2.trans k2, (g 3).2.trans k3⟩, (l 0).2.trans l0, (l 1).2.trans l1, (l 2).2.trans l2⟩)
   have G : Hid (z7t (doF ⟨v, es, cs⟩ ⟨cl, sq, ch⟩) w (.returned (.tuple #[.agg (stC v (.slice ae Le ce) (.slice (some ⟨b1, a, none⟩) Lc cc) M), clV ⟨cl, sq, 121, 0⟩])) (putT (putS w5 (w.heap.size + 1 + 1) v (.slice ae Le ce) (.slice (some ⟨b1, a, none⟩) Lc cc) M) (w.heap.size + 1 + 1 + 1) cl sq 121 0)) := Lib.hid (by
    have hb : Below w.heap.size w (putT (putS w5 (w.heap.size + 1 + 1) v (.slice ae Le ce) (.slice (some ⟨b1, a, none⟩) Lc cc) M) (w.heap.size + 1 + 1 + 1) cl sq 121 0) := ((z00 T.out s.out).trans ((z14 _ _ _ _ _ _).below (B := w.heap.size) (by omega))).trans ((z19 _ _ _ _ _ _).below (B := w.heap.size) (by omega));rw [R.out, E.out, y.out]
    exact ⟨ae, ce, _, cc, M, rfl, O.out _ (by rw [<- E.out, <- y.out]; exact hb), by rw [<- E.out, <- y.out]; exact hb⟩)
   have d := k.out;obtain ⟨r0, r1, r2, r3⟩ := d.c1;obtain ⟨s0, s1, s2, s3⟩ := d.f1;clear d;refine wR 3 { dst := none, op := Go.Op.store 73 (Go.Operand.tmp 4) (Go.Operand.tmp 53), type := 0, pos := "state.go:33", after := #[{ on := 0, ground := Go.Ground.data }, { on := 2, ground := Go.Ground.chain }, { on := 0, ground := Go.Ground.phase }, { on := 1, ground := Go.Ground.textOnly Go.Departure.lateStores }, { on := 2, ground := Go.Ground.textOnly Go.Departure.lateStoresUnsure }], guard := none } (fun K hK => ?_)
   go_simp
   refine hK.out _ _ ?_ (fun hz2 => ?_)
   ·exact V.out
   clear hK K hz1 A r0 r1 r2 r3 s0 s1 s2 s3
   try simp only [Act.put, la, lb, lc]
   have d := k.out;obtain ⟨r0, r1, r2, r3⟩ := d.c2;obtain ⟨s0, s1, s2, s3⟩ := d.f2;clear d;refine wR 4 { dst := none, op := Go.Op.store 32 (Go.Operand.tmp 5) (Go.Operand.tmp 55), type := 0, pos := "state.go:33", after := #[{ on := 2, ground := Go.Ground.data }, { on := 3, ground := Go.Ground.chain }, { on := 0, ground := Go.Ground.phase }, { on := 1, ground := Go.Ground.phase }, { on := 2, ground := Go.Ground.phase }, { on := 3, ground := Go.Ground.phase }], guard := none } (fun K hK => ?_)
   go_simp
   refine hK.out _ _ ?_ (fun hz3 => ?_)
   ·exact X.out
   clear hK K hz2 r0 r1 r2 r3 s0 s1 s2 s3
   try simp only [Act.put, la, lb, lc]
   have d := k.out;obtain ⟨f0, f1, f2, f3⟩ := d.g1;obtain ⟨g0, g1, g2, g3⟩ := d.g2;simp only at g0 g1 g2 g3 f0 f1 f2 f3;clear d hz3;refine wpAnyH_done (by kernel_rfl) ?_ _;refine NoPanic.normal ?_;go_wp2;exact bodyPost_ret (v := .tuple #[.agg (stC v (.slice ae Le ce) (.slice (some ⟨b1, a, none⟩) Lc cc) M), clV ⟨cl, sq, 121, 0⟩]) (by simp [results, Tryz.results40, go_sem, f0, f1, f2, f3, g0, g1, g2, g3]) rfl G.out
  have R := Lib.hid (zif (m := ⟨v, es, cs⟩) (c := ⟨cl, sq, ch⟩) U.out hxq hlt);have bP : decide (sq < xq) = false := decide_eq_false hlt
  have bD : (xq == sq) = false := by rw [beq_eq_false_iff_ne]; exact hxq
  clear hxq;go_wp2
  go_quiet (fail)
  have N := Lib.hid (z0a (Below.refl W1.heap.size W1) nq)
  generalize W1.drewN nq = Wq at *
  clear a0 a1 a2 a3 x0 x1 x2 x3 c1;obtain ⟨⟨⟨a0, a1, a2, a3⟩, x0, x1, x2, x3⟩, c1, -⟩ := aj.out Wq N.out;go_wp2
  go_quiet (fail)
  have t := Lib.hid (z0a N.out nq)
  generalize Wq.drewN nq = W2 at *
  clear a0 a1 a2 a3 x0 x1 x2 x3 c1 aj
 rotate_left
 focus
  have C : Maps.has D (kI cl) = false := by simpa using C
  have ai := Lib.hid C;have U : Hid (z2g cs cl = none) := Lib.hid (z2y.2 (good_no aM.out C));clear C
  go_wp2_with (at_lookup; refine wpList_lookup_own_ok_int _ rfl _ _ 71 rfl 3 3 .i64 lawI Tryz.underlying71 Tryz.underlying3 (zeroI _) M _ _ rfl aw.out _ _ rfl aW.out ?_; intro cw hat hwc; rw [ai.out]; clear hat hwc)
  rw [<- F.out];clear a3 b0 aw
  by_cases h16 : Lc = 16
  ·have R := Lib.hid (zid (m := ⟨v, es, cs⟩) (c := ⟨cl, sq, ch⟩) U.out (y.out.symm.trans h16))
   have aZ : ((Lc : Int) == 16) = true := by rw [beq_iff_eq]; omega
   clear h16;have a2 := u.out.c2;go_wp2
   go_quiet (fail)
   have N := Lib.hid (z0a (Below.refl W1.heap.size W1) nq)
   generalize W1.drewN nq = Wq at *
   go_wp2
   go_quiet (fail)
   have t := Lib.hid (z0a N.out nq)
   generalize Wq.drewN nq = W2 at *
   clear a2;have a2 := (u.out.below t.out).c2
   go_wp2_with fail
   have z : Hid (∀ W, Below W1.heap.size W1 W -> (W.cell? ⟨w.heap.size, 0, none⟩ = some (.int .i64 v) /\ W.cell? ⟨w.heap.size, 1, none⟩ = some (.slice ae Le ce) /\ W.cell? ⟨w.heap.size, 2, none⟩ = some (.slice ac Lc cc) /\ W.cell? ⟨w.heap.size, 3, none⟩ = some (.map (some M))) /\ (W.cell? ⟨w.heap.size + 1, 0, none⟩ = some (.int .i64 cl) /\ W.cell? ⟨w.heap.size + 1, 1, none⟩ = some (.int .i64 sq) /\ W.cell? ⟨w.heap.size + 1, 2, none⟩ = some (.slice b Lh capc))) := Lib.hid (fun W h => ⟨⟨(u.out.below h).cell rfl, (u.out.below h).cell rfl, (u.out.below h).cell rfl, (u.out.below h).cell rfl⟩, (J.out.below h).cell rfl, (J.out.below h).cell rfl, (J.out.below h).cell rfl⟩);have A := z.out _ t.out.drew
   go_wp2_with fail
   refine wp_region_noPanic ?_;refine wp_region_held_drew (S := fun W => (W.cell? ⟨w.heap.size, 0, none⟩ = some (.int .i64 v) /\ W.cell? ⟨w.heap.size, 1, none⟩ = some (.slice ae Le ce) /\ W.cell? ⟨w.heap.size, 2, none⟩ = some (.slice ac Lc cc) /\ W.cell? ⟨w.heap.size, 3, none⟩ = some (.map (some M))) /\ (W.cell? ⟨w.heap.size + 1, 0, none⟩ = some (.int .i64 cl) /\ W.cell? ⟨w.heap.size + 1, 1, none⟩ = some (.int .i64 sq) /\ W.cell? ⟨w.heap.size + 1, 2, none⟩ = some (.slice b Lh capc))) (by kernel_rfl) ?_ (fun hz0 => ?_)
   ·exact A
   refine wT 0 { dst := some 66, op := Go.Op.load 73 (Go.Operand.tmp 2), type := 73, pos := "state.go:35", after := #[], guard := none } (v := ?_) (Or.inl ⟨by rfl, ?_⟩) ?_
   rotate_left
   ·(intro w hSw; (try dsimp only at hSw); go_simp) <;> with_reducible rfl
   simp only [Act.put, la, lb, lc];refine wT 1 { dst := some 67, op := Go.Op.load 28 (Go.Operand.tmp 3), type := 28, pos := "state.go:35", after := #[], guard := none } (v := ?_) (Or.inl ⟨by rfl, ?_⟩) ?_
   rotate_left
   ·(intro w hSw; (try dsimp only at hSw); go_simp) <;> with_reducible rfl
   simp only [Act.put, la, lb, lc];refine wR 2 { dst := some 68, op := Go.Op.call { callee := Go.Callee.value (Go.Operand.func 81), args := #[Go.Operand.tmp 67, Go.Operand.const (Go.Value.int Go.IntKind.i64 130)], argTypes := #[28, 30] }, type := 32, pos := "state.go:35", after := #[{ on := 1, ground := Go.Ground.data }], guard := none } (fun K hK => ?_)
   go_simp
   refine (z74 _ cl sq _ 130).mono ?_;rintro e w5 ⟨rfl, aq⟩;have s : Hid (Below W1.heap.size W1 w5) := Lib.hid (z00 t.out.drew aq)
   go_wp2_with fail
   refine hK.out _ _ ?_ (fun hz1 => ?_)
   ·exact z.out _ s.out
   clear hK K hz0 aq
   try simp only [Act.put, la, lb, lc]
   have k := Lib.hid (za1 (ag.out.below s.out) (ah.out.below s.out) (by omega) v (.slice ae Le ce) (.slice ac Lc cc) M ⟨cl, sq, 130, 0⟩)
   have V : Hid (((putS w5 (w.heap.size + 1 + 1) v (.slice ae Le ce) (.slice ac Lc cc) M).cell? ⟨w.heap.size, 0, none⟩ = some (.int .i64 v) /\ (putS w5 (w.heap.size + 1 + 1) v (.slice ae Le ce) (.slice ac Lc cc) M).cell? ⟨w.heap.size, 1, none⟩ = some (.slice ae Le ce) /\ (putS w5 (w.heap.size + 1 + 1) v (.slice ae Le ce) (.slice ac Lc cc) M).cell? ⟨w.heap.size, 2, none⟩ = some (.slice ac Lc cc) /\ (putS w5 (w.heap.size + 1 + 1) v (.slice ae Le ce) (.slice ac Lc cc) M).cell? ⟨w.heap.size, 3, none⟩ = some (.map (some M))) /\ ((putS w5 (w.heap.size + 1 + 1) v (.slice ae Le ce) (.slice ac Lc cc) M).cell? ⟨w.heap.size + 1, 0, none⟩ = some (.int .i64 cl) /\ (putS w5 (w.heap.size + 1 + 1) v (.slice ae Le ce) (.slice ac Lc cc) M).cell? ⟨w.heap.size + 1, 1, none⟩ = some (.int .i64 sq) /\ (putS w5 (w.heap.size + 1 + 1) v (.slice ae Le ce) (.slice ac Lc cc) M).cell? ⟨w.heap.size + 1, 2, none⟩ = some (.slice b Lh capc))) := Lib.hid (by
    have f := k.out.keepN;obtain ⟨⟨k0, k1, k2, k3⟩, l0, l1, l2⟩ := z.out _ s.out
    have g := fun i => f ⟨w.heap.size, i, none⟩ (by show w.heap.size ≠ w.heap.size + 1 + 1; omega) (by show w.heap.size ≠ w.heap.size + 1 + 1 + 1; omega)
    have l := fun i => f ⟨w.heap.size + 1, i, none⟩ (by show w.heap.size + 1 ≠ w.heap.size + 1 + 1; omega) (by show w.heap.size + 1 ≠ w.heap.size + 1 + 1 + 1; omega)
    exact ⟨⟨(g 0).1.trans k0, (g 1).1.trans k1, (g 2).1.trans k2, (g 3).1.trans k3⟩, (l 0).1.trans l0, (l 1).1.trans l1, (l 2).1.trans l2⟩)
   have X : Hid (((putT (putS w5 (w.heap.size + 1 + 1) v (.slice ae Le ce) (.slice ac Lc cc) M) (w.heap.size + 1 + 1 + 1) cl sq 130 0).cell? ⟨w.heap.size, 0, none⟩ = some (.int .i64 v) /\ (putT (putS w5 (w.heap.size + 1 + 1) v (.slice ae Le ce) (.slice ac Lc cc) M) (w.heap.size + 1 + 1 + 1) cl sq 130 0).cell? ⟨w.heap.size, 1, none⟩ = some (.slice ae Le ce) /\ (putT (putS w5 (w.heap.size + 1 + 1) v (.slice ae Le ce) (.slice ac Lc cc) M) (w.heap.size + 1 + 1 + 1) cl sq 130 0).cell? ⟨w.heap.size, 2, none⟩ = some (.slice ac Lc cc) /\ (putT (putS w5 (w.heap.size + 1 + 1) v (.slice ae Le ce) (.slice ac Lc cc) M) (w.heap.size + 1 + 1 + 1) cl sq 130 0).cell? ⟨w.heap.size, 3, none⟩ = some (.map (some M))) /\ ((putT (putS w5 (w.heap.size + 1 + 1) v (.slice ae Le ce) (.slice ac Lc cc) M) (w.heap.size + 1 + 1 + 1) cl sq 130 0).cell? ⟨w.heap.size + 1, 0, none⟩ = some (.int .i64 cl) /\ (putT (putS w5 (w.heap.size + 1 + 1) v (.slice ae Le ce) (.slice ac Lc cc) M) (w.heap.size + 1 + 1 + 1) cl sq 130 0).cell? ⟨w.heap.size + 1, 1, none⟩ = some (.int .i64 sq) /\ (putT (putS w5 (w.heap.size + 1 + 1) v (.slice ae Le ce) (.slice ac Lc cc) M) (w.heap.size + 1 + 1 + 1) cl sq 130 0).cell? ⟨w.heap.size + 1, 2, none⟩ = some (.slice b Lh capc))) := Lib.hid (by
    have f := k.out.keepN;obtain ⟨⟨k0, k1, k2, k3⟩, l0, l1, l2⟩ := z.out _ s.out
    have g := fun i => f ⟨w.heap.size, i, none⟩ (by show w.heap.size ≠ w.heap.size + 1 + 1; omega) (by show w.heap.size ≠ w.heap.size + 1 + 1 + 1; omega)
    have l := fun i => f ⟨w.heap.size + 1, i, none⟩ (by show w.heap.size + 1 ≠ w.heap.size + 1 + 1; omega) (by show w.heap.size + 1 ≠ w.heap.size + 1 + 1 + 1; omega)
    exact ⟨⟨(g 0).2.trans k0, (g 1).2.trans k1, (g 2).2.trans k2, (g 3).2.trans k3⟩, (l 0).2.trans l0, (l 1).2.trans l1, (l 2).2.trans l2⟩)
   have G : Hid (z7t (doF ⟨v, es, cs⟩ ⟨cl, sq, ch⟩) w (.returned (.tuple #[.agg (stC v (.slice ae Le ce) (.slice ac Lc cc) M), clV ⟨cl, sq, 130, 0⟩])) (putT (putS w5 (w.heap.size + 1 + 1) v (.slice ae Le ce) (.slice ac Lc cc) M) (w.heap.size + 1 + 1 + 1) cl sq 130 0)) := Lib.hid (by
    have hb : Below w.heap.size w (putT (putS w5 (w.heap.size + 1 + 1) v (.slice ae Le ce) (.slice ac Lc cc) M) (w.heap.size + 1 + 1 + 1) cl sq 130 0) := ((z00 T.out s.out).trans ((z14 _ _ _ _ _ _).below (B := w.heap.size) (by omega))).trans ((z19 _ _ _ _ _ _).below (B := w.heap.size) (by omega));rw [R.out, E.out, y.out]
    exact ⟨ae, ce, _, cc, M, rfl, O.out _ (by rw [<- E.out, <- y.out]; exact hb), by rw [<- E.out, <- y.out]; exact hb⟩)
   have d := k.out;obtain ⟨r0, r1, r2, r3⟩ := d.c1;obtain ⟨s0, s1, s2, s3⟩ := d.f1;clear d;refine wR 3 { dst := none, op := Go.Op.store 73 (Go.Operand.tmp 4) (Go.Operand.tmp 66), type := 0, pos := "state.go:35", after := #[{ on := 0, ground := Go.Ground.data }, { on := 2, ground := Go.Ground.chain }, { on := 0, ground := Go.Ground.phase }, { on := 1, ground := Go.Ground.textOnly Go.Departure.lateStores }, { on := 2, ground := Go.Ground.textOnly Go.Departure.lateStoresUnsure }], guard := none } (fun K hK => ?_)
   go_simp
   refine hK.out _ _ ?_ (fun hz2 => ?_)
   ·exact V.out
   clear hK K hz1 A r0 r1 r2 r3 s0 s1 s2 s3
   try simp only [Act.put, la, lb, lc]
   have d := k.out;obtain ⟨r0, r1, r2, r3⟩ := d.c2;obtain ⟨s0, s1, s2, s3⟩ := d.f2;clear d;refine wR 4 { dst := none, op := Go.Op.store 32 (Go.Operand.tmp 5) (Go.Operand.tmp 68), type := 0, pos := "state.go:35", after := #[{ on := 2, ground := Go.Ground.data }, { on := 3, ground := Go.Ground.chain }, { on := 0, ground := Go.Ground.phase }, { on := 1, ground := Go.Ground.phase }, { on := 2, ground := Go.Ground.phase }, { on := 3, ground := Go.Ground.phase }], guard := none } (fun K hK => ?_)
   go_simp
   refine hK.out _ _ ?_ (fun hz3 => ?_)
   ·exact X.out
   clear hK K hz2 r0 r1 r2 r3 s0 s1 s2 s3
   try simp only [Act.put, la, lb, lc]
   have d := k.out;obtain ⟨f0, f1, f2, f3⟩ := d.g1;obtain ⟨g0, g1, g2, g3⟩ := d.g2;simp only at g0 g1 g2 g3 f0 f1 f2 f3;clear d hz3;refine wpAnyH_done (by kernel_rfl) ?_ _;refine NoPanic.normal ?_;go_wp2;exact bodyPost_ret (v := .tuple #[.agg (stC v (.slice ae Le ce) (.slice ac Lc cc) M), clV ⟨cl, sq, 130, 0⟩]) (by simp [results, Tryz.results40, go_sem, f0, f1, f2, f3, g0, g1, g2, g3]) rfl G.out
  have R := Lib.hid (zie (m := ⟨v, es, cs⟩) (c := ⟨cl, sq, ch⟩) U.out (fun h => h16 (y.out.trans h)))
  have aZ : ((Lc : Int) == 16) = false := by rw [beq_eq_false_iff_ne]; omega
  clear h16;have a2 := u.out.c2;go_wp2
  go_quiet (fail)
  have N := Lib.hid (z0a (Below.refl W1.heap.size W1) nq)
  generalize W1.drewN nq = Wq at *
  go_wp2
  go_quiet (fail)
  have t := Lib.hid (z0a N.out nq)
  generalize Wq.drewN nq = W2 at *
  clear a2
 all_goals
  have a0 := (u.out.below t.out).c0;have a1 := (u.out.below t.out).c1;have a2 := (u.out.below t.out).c2;have a3 := (u.out.below t.out).c3;have c2 := (J.out.below t.out).c2;have bc := Lib.hid (au.out W2 (z00 T.out t.out));clear au
  go_wp2_with fail
  refine bc.out.mono ?_;rintro e w3 h3;obtain ⟨al, c1, H, I, M2, rfl, aF, bd⟩ := HT.out.chg _ _ _ h3;have Y : Hid (Below W1.heap.size W1 w3) := Lib.hid (z00 t.out bd);have bE := Lib.hid aF;clear a0 a1 a2 a3 c2 h3 aF bd bc
  have bQ : w.heap.size + 4 <= w3.heap.size := by have := Y.out.size; have := bu.out; omega
  obtain ⟨W4, Z⟩ := nmd (putS w3 w.heap.size v2 (.slice al L2 c1) (.slice H Lc I) M2);have L := Lib.hid (u.out.below Y.out);have aa : Hid (But w.heap.size w3 W4) := Lib.hid (by rw [Z.out]; exact z14 _ _ _ _ _ _);have bf : Hid (Row W4 w.heap.size 73 [.int .i64 v2, .slice al L2 c1, .slice H Lc I, .map (some M2)]) := Lib.hid (by rw [Z.out]; exact z3k L.out _ _ _ _);have bg := Lib.hid ((J.out.below Y.out).keep (aa.out.block (w.heap.size + 1) (by omega)));have bF := Lib.hid ((ag.out.below Y.out).keep (aa.out.block (w.heap.size + 1 + 1) (by omega)));have bG := Lib.hid ((ah.out.below Y.out).keep (aa.out.block (w.heap.size + 1 + 1 + 1) (by omega)));have bH := Lib.hid (bE.out.but L.out (fun _ => Value.noConfusion) (fun _ => Value.noConfusion) (fun _ => Value.noConfusion) (fun _ => Value.noConfusion) (fun _ => Value.noConfusion) (fun _ => Value.noConfusion) (fun _ => Value.noConfusion) aa.out);have bI : Hid (Below w.heap.size w W4) := Lib.hid ((z00 T.out Y.out).trans (aa.out.below (B := w.heap.size) (by omega)));have bh : W4.heap.size = w3.heap.size := aa.out.size;have z0 := L.out.c0;have z1 := L.out.c1;have z2 := L.out.c2;have z3 := L.out.c3;have y0 := L.out.thaw 0;have y1 := L.out.thaw 1;have y2 := L.out.thaw 2;have y3 := L.out.thaw 3
  have p0 : (putS w3 w.heap.size v2 (.slice al L2 c1) (.slice H Lc I) M2).cell? ⟨w.heap.size + 1, 0, none⟩ = some (.int .i64 cl) := by rw [<- Z.out]; exact bg.out.cell rfl
  have p1 : (putS w3 w.heap.size v2 (.slice al L2 c1) (.slice H Lc I) M2).cell? ⟨w.heap.size + 1, 1, none⟩ = some (.int .i64 sq) := by rw [<- Z.out]; exact bg.out.cell rfl
  have p2 : (putS w3 w.heap.size v2 (.slice al L2 c1) (.slice H Lc I) M2).cell? ⟨w.heap.size, 0, none⟩ = some (.int .i64 v2) := by rw [<- Z.out]; exact bf.out.cell rfl
  go_wp2_with fail
  clear z0 z1 z2 z3 y0 y1 y2 y3 p0 p1 p2;rw [<- show W4 = (((w3.setCell ⟨w.heap.size, 0, none⟩ (.int .i64 v2)).setCell ⟨w.heap.size, 1, none⟩ (.slice al L2 c1)).setCell ⟨w.heap.size, 2, none⟩ (.slice H Lc I)).setCell ⟨w.heap.size, 3, none⟩ (.map (some M2)) from Z.out];obtain ⟨W5, aO⟩ := nmd (W4.alloc (.cells #[.int .i64 cl, .int .i64 sq, .int .i64 k2, .int .i64 v2] 32));have s : Hid (Below W4.heap.size W4 W5) := Lib.hid (by rw [aO.out]; exact z03 _ _);have bJ : Hid (Row W5 w3.heap.size 32 [.int .i64 cl, .int .i64 sq, .int .i64 k2, .int .i64 v2]) := Lib.hid (by rw [aO.out, <- bh]; exact z02 W4 #[.int .i64 cl, .int .i64 sq, .int .i64 k2, .int .i64 v2] _);rw [<- aO.out]
  have z : Hid (∀ W, Below W5.heap.size W5 W -> (W.cell? ⟨w.heap.size, 0, none⟩ = some (.int .i64 v2) /\ W.cell? ⟨w.heap.size, 1, none⟩ = some (.slice al L2 c1) /\ W.cell? ⟨w.heap.size, 2, none⟩ = some (.slice H Lc I) /\ W.cell? ⟨w.heap.size, 3, none⟩ = some (.map (some M2))) /\ (W.cell? ⟨w3.heap.size, 0, none⟩ = some (.int .i64 cl) /\ W.cell? ⟨w3.heap.size, 1, none⟩ = some (.int .i64 sq) /\ W.cell? ⟨w3.heap.size, 2, none⟩ = some (.int .i64 k2) /\ W.cell? ⟨w3.heap.size, 3, none⟩ = some (.int .i64 v2))) := Lib.hid (fun W h => by
   have ra := (bf.out.below s.out).below h;have rx := bJ.out.below h
   exact ⟨⟨ra.cell rfl, ra.cell rfl, ra.cell rfl, ra.cell rfl⟩, rx.cell rfl, rx.cell rfl, rx.cell rfl, rx.cell rfl⟩)
  have A := z.out _ (Below.refl W5.heap.size W5).drew;have bK := Lib.hid (HT.out.sto W5.drew al c1 H I M2 (bH.out.old s.out.drew));refine wp_region_noPanic ?_;refine wp_region_held_drew (S := fun W => (W.cell? ⟨w.heap.size, 0, none⟩ = some (.int .i64 v2) /\ W.cell? ⟨w.heap.size, 1, none⟩ = some (.slice al L2 c1) /\ W.cell? ⟨w.heap.size, 2, none⟩ = some (.slice H Lc I) /\ W.cell? ⟨w.heap.size, 3, none⟩ = some (.map (some M2))) /\ (W.cell? ⟨w3.heap.size, 0, none⟩ = some (.int .i64 cl) /\ W.cell? ⟨w3.heap.size, 1, none⟩ = some (.int .i64 sq) /\ W.cell? ⟨w3.heap.size, 2, none⟩ = some (.int .i64 k2) /\ W.cell? ⟨w3.heap.size, 3, none⟩ = some (.int .i64 v2))) (by kernel_rfl) ?_ (fun hz0 => ?_)
  ·exact A
  refine wT 0 { dst := some 85, op := Go.Op.load 73 (Go.Operand.tmp 2), type := 73, pos := "state.go:39", after := #[], guard := none } (v := ?_) (Or.inl ⟨by rfl, ?_⟩) ?_
  rotate_left
  ·(intro w hSw; (try dsimp only at hSw); go_simp) <;> with_reducible rfl
  simp only [Act.put, la, lb, lc];refine wT 1 { dst := some 86, op := Go.Op.load 32 (Go.Operand.tmp 9), type := 32, pos := "state.go:39", after := #[], guard := none } (v := ?_) (Or.inl ⟨by rfl, ?_⟩) ?_
  rotate_left
  ·(intro w hSw; (try dsimp only at hSw); go_simp) <;> with_reducible rfl
  simp only [Act.put, la, lb, lc];refine wT 3 { dst := some 88, op := Go.Op.load 32 (Go.Operand.tmp 9), type := 32, pos := "state.go:39", after := #[{ on := 4, ground := Go.Ground.gcOnly Go.Departure.lateStores }], guard := none } (v := ?_) (Or.inl ⟨by rfl, ?_⟩) ?_
  rotate_left
  ·(intro w hSw; (try dsimp only at hSw); go_simp) <;> with_reducible rfl
  simp only [Act.put, la, lb, lc];refine wR 2 { dst := some 87, op := Go.Op.call { callee := Go.Callee.value (Go.Operand.func 83), args := #[Go.Operand.tmp 85, Go.Operand.tmp 86], argTypes := #[73, 32] }, type := 73, pos := "state.go:39", after := #[{ on := 0, ground := Go.Ground.data }, { on := 1, ground := Go.Ground.data }], guard := none } (fun K hK => ?_)
  go_simp
  refine bK.out.mono ?_;rintro e w6 ⟨q, r, o, p, M3, rfl, aG, bi, ax⟩;obtain ⟨L3, bj⟩ := nmd ((putL ⟨cl, sq, k2, v2⟩ cs).length);have bL := Lib.hid aG;have bM := Lib.hid bi;have af : Hid (Below W5.heap.size W5 w6) := Lib.hid (z00 (Below.refl W5.heap.size W5).drew ax);simp only;rw [<- bj.out, <- HT.out.len];clear aG bi ax
  go_wp2_with fail
  refine hK.out _ _ ?_ (fun hz1 => ?_)
  ·exact z.out _ af.out
  clear hK K hz0
  try simp only [Act.put, la, lb, lc]
  have aH := Lib.hid ((bF.out.below s.out).below af.out);have aI := Lib.hid ((bG.out.below s.out).below af.out);have k := Lib.hid (za1 aH.out aI.out (by omega) v2 (.slice q L2 r) (.slice o L3 p) M3 ⟨cl, sq, k2, v2⟩)
  have V : Hid (((putS w6 (w.heap.size + 1 + 1) v2 (.slice q L2 r) (.slice o L3 p) M3).cell? ⟨w.heap.size, 0, none⟩ = some (.int .i64 v2) /\ (putS w6 (w.heap.size + 1 + 1) v2 (.slice q L2 r) (.slice o L3 p) M3).cell? ⟨w.heap.size, 1, none⟩ = some (.slice al L2 c1) /\ (putS w6 (w.heap.size + 1 + 1) v2 (.slice q L2 r) (.slice o L3 p) M3).cell? ⟨w.heap.size, 2, none⟩ = some (.slice H Lc I) /\ (putS w6 (w.heap.size + 1 + 1) v2 (.slice q L2 r) (.slice o L3 p) M3).cell? ⟨w.heap.size, 3, none⟩ = some (.map (some M2))) /\ ((putS w6 (w.heap.size + 1 + 1) v2 (.slice q L2 r) (.slice o L3 p) M3).cell? ⟨w3.heap.size, 0, none⟩ = some (.int .i64 cl) /\ (putS w6 (w.heap.size + 1 + 1) v2 (.slice q L2 r) (.slice o L3 p) M3).cell? ⟨w3.heap.size, 1, none⟩ = some (.int .i64 sq) /\ (putS w6 (w.heap.size + 1 + 1) v2 (.slice q L2 r) (.slice o L3 p) M3).cell? ⟨w3.heap.size, 2, none⟩ = some (.int .i64 k2) /\ (putS w6 (w.heap.size + 1 + 1) v2 (.slice q L2 r) (.slice o L3 p) M3).cell? ⟨w3.heap.size, 3, none⟩ = some (.int .i64 v2))) := Lib.hid (by
   have f := k.out.keepN;obtain ⟨⟨k0, k1, k2, k3⟩, l0, l1, l2, l3⟩ := z.out _ af.out
   have g := fun i => f ⟨w.heap.size, i, none⟩ (by show w.heap.size ≠ w.heap.size + 1 + 1; omega) (by show w.heap.size ≠ w.heap.size + 1 + 1 + 1; omega)
   have l := fun i => f ⟨w3.heap.size, i, none⟩ (by show w3.heap.size ≠ w.heap.size + 1 + 1; omega) (by show w3.heap.size ≠ w.heap.size + 1 + 1 + 1; omega)
   exact ⟨⟨(g 0).1.trans k0, (g 1).1.trans k1, (g 2).1.trans k2, (g 3).1.trans k3⟩, (l 0).1.trans l0, (l 1).1.trans l1, (l 2).1.trans l2, (l 3).1.trans l3⟩)
  have X : Hid (((putT (putS w6 (w.heap.size + 1 + 1) v2 (.slice q L2 r) (.slice o L3 p) M3) (w.heap.size + 1 + 1 + 1) cl sq k2 v2).cell? ⟨w.heap.size, 0, none⟩ = some (.int .i64 v2) /\ (putT (putS w6 (w.heap.size + 1 + 1) v2 (.slice q L2 r) (.slice o L3 p) M3) (w.heap.size + 1 + 1 + 1) cl sq k2 v2).cell? ⟨w.heap.size, 1, none⟩ = some (.slice al L2 c1) /\ (putT (putS w6 (w.heap.size + 1 + 1) v2 (.slice q L2 r) (.slice o L3 p) M3) (w.heap.size + 1 + 1 + 1) cl sq k2 v2).cell? ⟨w.heap.size, 2, none⟩ = some (.slice H Lc I) /\ (putT (putS w6 (w.heap.size + 1 + 1) v2 (.slice q L2 r) (.slice o L3 p) M3) (w.heap.size + 1 + 1 + 1) cl sq k2 v2).cell? ⟨w.heap.size, 3, none⟩ = some (.map (some M2))) /\ ((putT (putS w6 (w.heap.size + 1 + 1) v2 (.slice q L2 r) (.slice o L3 p) M3) (w.heap.size + 1 + 1 + 1) cl sq k2 v2).cell? ⟨w3.heap.size, 0, none⟩ = some (.int .i64 cl) /\ (putT (putS w6 (w.heap.size + 1 + 1) v2 (.slice q L2 r) (.slice o L3 p) M3) (w.heap.size + 1 + 1 + 1) cl sq k2 v2).cell? ⟨w3.heap.size, 1, none⟩ = some (.int .i64 sq) /\ (putT (putS w6 (w.heap.size + 1 + 1) v2 (.slice q L2 r) (.slice o L3 p) M3) (w.heap.size + 1 + 1 + 1) cl sq k2 v2).cell? ⟨w3.heap.size, 2, none⟩ = some (.int .i64 k2) /\ (putT (putS w6 (w.heap.size + 1 + 1) v2 (.slice q L2 r) (.slice o L3 p) M3) (w.heap.size + 1 + 1 + 1) cl sq k2 v2).cell? ⟨w3.heap.size, 3, none⟩ = some (.int .i64 v2))) := Lib.hid (by
   have f := k.out.keepN;obtain ⟨⟨k0, k1, k2, k3⟩, l0, l1, l2, l3⟩ := z.out _ af.out
   have g := fun i => f ⟨w.heap.size, i, none⟩ (by show w.heap.size ≠ w.heap.size + 1 + 1; omega) (by show w.heap.size ≠ w.heap.size + 1 + 1 + 1; omega)
   have l := fun i => f ⟨w3.heap.size, i, none⟩ (by show w3.heap.size ≠ w.heap.size + 1 + 1; omega) (by show w3.heap.size ≠ w.heap.size + 1 + 1 + 1; omega)
   exact ⟨⟨(g 0).2.trans k0, (g 1).2.trans k1, (g 2).2.trans k2, (g 3).2.trans k3⟩, (l 0).2.trans l0, (l 1).2.trans l1, (l 2).2.trans l2, (l 3).2.trans l3⟩)
  have G : Hid (z7t (doF ⟨v, es, cs⟩ ⟨cl, sq, ch⟩) w (.returned (.tuple #[.agg (stC v2 (.slice q L2 r) (.slice o L3 p) M3), clV ⟨cl, sq, k2, v2⟩])) (putT (putS w6 (w.heap.size + 1 + 1) v2 (.slice q L2 r) (.slice o L3 p) M3) (w.heap.size + 1 + 1 + 1) cl sq k2 v2)) := Lib.hid (by
   have ax : Below w.heap.size w w6 := z00 (z00 bI.out s.out) af.out;have ar := z14 w6 (w.heap.size + 1 + 1) v2 (.slice q L2 r) (.slice o L3 p) M3;have bm := z19 (putS w6 (w.heap.size + 1 + 1) v2 (.slice q L2 r) (.slice o L3 p) M3) (w.heap.size + 1 + 1 + 1) cl sq k2 v2;have hb : Below w.heap.size w (putT (putS w6 (w.heap.size + 1 + 1) v2 (.slice q L2 r) (.slice o L3 p) M3) (w.heap.size + 1 + 1 + 1) cl sq k2 v2) := (ax.trans (ar.below (B := w.heap.size) (by omega))).trans (bm.below (B := w.heap.size) (by omega));have s1 := bL.out.but aH.out (fun _ => Value.noConfusion) (fun _ => Value.noConfusion) (fun _ => Value.noConfusion) (fun _ => Value.noConfusion) (fun _ => Value.noConfusion) (fun _ => Value.noConfusion) (fun _ => Value.noConfusion) ar;have f1 : SlL (putS w6 (w.heap.size + 1 + 1) v2 (.slice q L2 r) (.slice o L3 p) M3) (Fsh W5.drew.heap.size (putS w6 (w.heap.size + 1 + 1) v2 (.slice q L2 r) (.slice o L3 p) M3)) (.slice o (putL ⟨cl, sq, k2, v2⟩ cs).length p) (putL ⟨cl, sq, k2, v2⟩ cs) := Sl.keep bM.out (fun b hb => ar.block b (by have h9 := hb.1; have h8 := s.out.size; show b ≠ w.heap.size + 1 + 1; simp only [World.drew] at h9; omega)) (fun b hb => ⟨hb.1, Nat.lt_of_lt_of_eq hb.2 ar.size.symm⟩) (fun _ _ h => h);have s2 := s1.butT f1 (by have h8 := s.out.size; simp only [World.drew]; omega) (aI.out.keep (ar.block (w.heap.size + 1 + 1 + 1) (by omega))) bm;rw [R.out, HT.out.fin]
   exact ⟨q, r, o, p, M3, by rw [bj.out, HT.out.len], s2, hb⟩)
  have d := k.out;obtain ⟨r0, r1, r2, r3⟩ := d.c1;obtain ⟨s0, s1, s2, s3⟩ := d.f1;clear d;refine wR 4 { dst := none, op := Go.Op.store 73 (Go.Operand.tmp 4) (Go.Operand.tmp 87), type := 0, pos := "state.go:39", after := #[{ on := 2, ground := Go.Ground.data }, { on := 2, ground := Go.Ground.chain }, { on := 0, ground := Go.Ground.phase }, { on := 1, ground := Go.Ground.phase }, { on := 2, ground := Go.Ground.phase }, { on := 3, ground := Go.Ground.textOnly Go.Departure.lateStores }], guard := none } (fun K hK => ?_)
  go_simp
  refine hK.out _ _ ?_ (fun hz2 => ?_)
  ·exact V.out
  clear hK K hz1 A r0 r1 r2 r3 s0 s1 s2 s3
  try simp only [Act.put, la, lb, lc]
  have d := k.out;obtain ⟨r0, r1, r2, r3⟩ := d.c2;obtain ⟨s0, s1, s2, s3⟩ := d.f2;clear d;refine wR 5 { dst := none, op := Go.Op.store 32 (Go.Operand.tmp 5) (Go.Operand.tmp 88), type := 0, pos := "state.go:39", after := #[{ on := 3, ground := Go.Ground.data }, { on := 4, ground := Go.Ground.chain }, { on := 0, ground := Go.Ground.phase }, { on := 1, ground := Go.Ground.phase }, { on := 2, ground := Go.Ground.phase }, { on := 3, ground := Go.Ground.phase }, { on := 4, ground := Go.Ground.phase }], guard := none } (fun K hK => ?_)
  go_simp
  refine hK.out _ _ ?_ (fun hz3 => ?_)
  ·exact X.out
  clear hK K hz2 r0 r1 r2 r3 s0 s1 s2 s3
  try simp only [Act.put, la, lb, lc]
  have d := k.out;obtain ⟨f0, f1, f2, f3⟩ := d.g1;obtain ⟨g0, g1, g2, g3⟩ := d.g2;simp only at g0 g1 g2 g3 f0 f1 f2 f3;clear d hz3;refine wpAnyH_done (by kernel_rfl) ?_ _;refine NoPanic.normal ?_;go_wp2;exact bodyPost_ret (v := .tuple #[.agg (stC v2 (.slice q L2 r) (.slice o L3 p) M3), clV ⟨cl, sq, k2, v2⟩]) (by simp [results, Tryz.results40, go_sem, f0, f1, f2, f3, g0, g1, g2, g3]) rfl G.out
end Go.Proofs.YtdkkkeoicekdgaaGreatDoor.Md
