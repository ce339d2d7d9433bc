/- Package model: a command executed. -/
import Derived.Test.YtdkkkeoicekdgaaGreatDoorZAMsz

namespace Go.Proofs.YtdkkkeoicekdgaaGreatDoor.Md
set_option maxHeartbeats 12800000
set_option maxRecDepth 100000
open Go.RowKit Go.Maps Go.WideShapes Go.WideMaps Go.Proofs.YtdkkkeoicekdgaaGreatDoor Go.Proofs.YtdkkkeoicekdgaaGreatDoor.Ca
theorem z8a (w : World) (m : Mdl) (ae : Option Addr) (ce : Nat) (ac : Option Addr) (cc M : Nat) (c : Cli) (hst : StAt w m ae ce ac cc M) (hsr : SrtC m.cs) (hl : m.cs.length <= 16) (hle : m.es.length <= 1000) (hid : ∀ x, x ∈ m.cs -> 1 <= x.id /\ x.id <= 1073741824) (hci : 1 <= c.id /\ c.id <= 1073741824) :
  Calls Tryz.prog 83 #[.agg (stC m.vr (.slice ae m.es.length ce) (.slice ac m.cs.length cc) M), clV c] w (z1n ⟨m.vr, m.es, putL c m.cs⟩ w) := by
 by_cases hkn : ∃ x, x ∈ m.cs /\ x.id = c.id
 ·exact z60 w m ae ce ac cc M c hst hsr hl hle hid hci hkn
 ·have hun : ∀ x, x ∈ m.cs -> x.id ≠ c.id := fun x hx he => hkn ⟨x, hx, he⟩
  cases hac : ac with
  | none => subst hac; exact z88 w m ae ce none cc M c hst hsr hl hle hid hci hun rfl
  | some ad => subst hac; exact z89 w m ae ce ad cc M c hst hsr hl hle hid hci hun
def z41 (r : Mdl × Cli) (w : World) (e : Ending) (w' : World) : Prop := ∃ ae ce ac cc M, e = .returned (.tuple #[.agg (stC r.1.vr (.slice ae r.1.es.length ce) (.slice ac r.1.cs.length cc) M), clV r.2]) /\ StAt w' r.1 ae ce ac cc M /\ Below w.heap.size w w'
theorem do_same {m : Mdl} {c : Cmd} {x : Cli} (h : z0x m.cs c.cl = some x) (h1 : x.sq = c.sq) : doF m c = (m, x) := by rw [doF, h]; simp only; rw [if_pos h1]
theorem do_stale {m : Mdl} {c : Cmd} {x : Cli} (h : z0x m.cs c.cl = some x) (h1 : ¬ x.sq = c.sq) (h2 : c.sq < x.sq) : doF m c = (m, ⟨c.cl, c.sq, 121, 0⟩) := by rw [doF, h]; simp only; rw [if_neg h1, if_pos h2]
theorem do_full {m : Mdl} {c : Cmd} (h : z0x m.cs c.cl = none) (h1 : m.cs.length = 16) : doF m c = (m, ⟨c.cl, c.sq, 130, 0⟩) := by rw [doF, h]; simp only; rw [if_pos h1]
theorem do_exe1 {m : Mdl} {c : Cmd} {x : Cli} (h : z0x m.cs c.cl = some x) (h1 : ¬ x.sq = c.sq) (h2 : ¬ c.sq < x.sq) : doF m c = exeF m c := by rw [doF, h]; simp only; rw [if_neg h1, if_neg h2]
theorem do_exe2 {m : Mdl} {c : Cmd} (h : z0x m.cs c.cl = none) (h1 : ¬ m.cs.length = 16) : doF m c = exeF m c := by rw [doF, h]; simp only; rw [if_neg h1]
theorem z8q {l : List Cli} {j : Nat} {x : Cli} {id : Int} (hs : SrtC l) (hx : l[j]? = some x) (he : x.id = id) : z0x l id = some x := by
 cases hf : z0x l id with
 | none => exact absurd he (z1m.1 hf x (List.mem_of_getElem? hx))
 | some y =>
  obtain ⟨h1, h2⟩ := z52 hf
  obtain ⟨k, hk⟩ := List.mem_iff_getElem?.1 h1
  rcases Nat.lt_trichotomy j k with h | rfl | h
  ·have := z5h hs hx hk h; omega
  ·rw [hx] at hk; exact hk.symm
  ·have := z5h hs hk hx h; omega
def chgM (m : Mdl) (k : Except Nat (List Ent)) : Mdl := match k with | .error _ => m | .ok l => ⟨m.vr + 1, l, m.cs⟩
def chgE (k : Except Nat (List Ent)) : Int := match k with | .error k => (k : Int) | .ok _ => 0
theorem exe_eq (m : Mdl) (c : Cmd) : exeF m c = (⟨(chgM m (chgF m.vr m.es c.ch)).vr, (chgM m (chgF m.vr m.es c.ch)).es, putL ⟨c.cl, c.sq, chgE (chgF m.vr m.es c.ch), (chgM m (chgF m.vr m.es c.ch)).vr⟩ m.cs⟩, ⟨c.cl, c.sq, chgE (chgF m.vr m.es c.ch), (chgM m (chgF m.vr m.es c.ch)).vr⟩) := by
 unfold exeF
 cases chgF m.vr m.es c.ch with
 | error k => rfl
 | ok l => rfl
theorem zav {m : Mdl} {ch : List Chg} {w w' : World} {e : Ending} (h : z1a m ch w e w') : ∃ ae ce ac cc M, e = .returned (.tuple #[.agg (stC (chgM m (chgF m.vr m.es ch)).vr (.slice ae (chgM m (chgF m.vr m.es ch)).es.length ce) (.slice ac m.cs.length cc) M), .int .i64 (chgE (chgF m.vr m.es ch))]) /\ StAt w' (chgM m (chgF m.vr m.es ch)) ae ce ac cc M /\ Below w.heap.size w w' := by
 obtain ⟨ae, ce, ac, cc, M, h1, h2, h3⟩ := h
 exact ⟨ae, ce, ac, cc, M, h3, h1, h2⟩
abbrev putT (w : World) (T : Nat) (i q a r : Int) : World := (((w.setCell ⟨T, 0, none⟩ (.int .i64 i)).setCell ⟨T, 1, none⟩ (.int .i64 q)).setCell ⟨T, 2, none⟩ (.int .i64 a)).setCell ⟨T, 3, none⟩ (.int .i64 r)
theorem z65 {w : World} {T : Nat} {t : TypeId} {x0 x1 x2 x3 : Value} (h : Row w T t [x0, x1, x2, x3]) (i q a r : Int) : Row (putT w T i q a r) T t [.int .i64 i, .int .i64 q, .int .i64 a, .int .i64 r] := (((h.set 0 (.int .i64 i)).set 1 (.int .i64 q)).set 2 (.int .i64 a)).set 3 (.int .i64 r)
theorem z10 (w : World) (T : Nat) (i q a r : Int) : But T w (putT w T i q a r) := ((((But.refl _ _).set _ _).set _ _).set _ _).set _ _
structure Sto (W : World) (R T : Nat) (v : Int) (ve vc : Value) (M : Nat) (r : Cli) : Prop where
 c1 : W.cell? ⟨R, 0, none⟩ = some (.int .i64 0) /\ W.cell? ⟨R, 1, none⟩ = some (.slice none 0 0) /\ W.cell? ⟨R, 2, none⟩ = some (.slice none 0 0) /\ W.cell? ⟨R, 3, none⟩ = some (.map none)
 f1 : W.frozen? ⟨R, 0, none⟩ = false /\ W.frozen? ⟨R, 1, none⟩ = false /\ W.frozen? ⟨R, 2, none⟩ = false /\ W.frozen? ⟨R, 3, none⟩ = false
 c2 : (putS W R v ve vc M).cell? ⟨T, 0, none⟩ = some (.int .i64 0) /\ (putS W R v ve vc M).cell? ⟨T, 1, none⟩ = some (.int .i64 0) /\ (putS W R v ve vc M).cell? ⟨T, 2, none⟩ = some (.int .i64 0) /\ (putS W R v ve vc M).cell? ⟨T, 3, none⟩ = some (.int .i64 0)
 f2 : (putS W R v ve vc M).frozen? ⟨T, 0, none⟩ = false /\ (putS W R v ve vc M).frozen? ⟨T, 1, none⟩ = false /\ (putS W R v ve vc M).frozen? ⟨T, 2, none⟩ = false /\ (putS W R v ve vc M).frozen? ⟨T, 3, none⟩ = false
 g1 : (putT (putS W R v ve vc M) T r.id r.sq r.an r.vr).cell? ⟨R, 0, none⟩ = some (.int .i64 v) /\ (putT (putS W R v ve vc M) T r.id r.sq r.an r.vr).cell? ⟨R, 1, none⟩ = some ve /\ (putT (putS W R v ve vc M) T r.id r.sq r.an r.vr).cell? ⟨R, 2, none⟩ = some vc /\ (putT (putS W R v ve vc M) T r.id r.sq r.an r.vr).cell? ⟨R, 3, none⟩ = some (.map (some M))
 g2 : (putT (putS W R v ve vc M) T r.id r.sq r.an r.vr).cell? ⟨T, 0, none⟩ = some (.int .i64 r.id) /\ (putT (putS W R v ve vc M) T r.id r.sq r.an r.vr).cell? ⟨T, 1, none⟩ = some (.int .i64 r.sq) /\ (putT (putS W R v ve vc M) T r.id r.sq r.an r.vr).cell? ⟨T, 2, none⟩ = some (.int .i64 r.an) /\ (putT (putS W R v ve vc M) T r.id r.sq r.an r.vr).cell? ⟨T, 3, none⟩ = some (.int .i64 r.vr)
 keep : ∀ p : Addr, p.block ≠ R -> p.block ≠ T -> (putS W R v ve vc M).drew.cell? p = W.cell? p /\ (putT (putS W R v ve vc M) T r.id r.sq r.an r.vr).drew.cell? p = W.cell? p
theorem StAt.butT {w w' : World} {m : Mdl} {ae ac : Option Addr} {ce cc M T B : Nat} {t : TypeId} {x0 x1 x2 x3 : Int} (h : StAt w m ae ce ac cc M) (hf : SlL w (Fsh B w) (.slice ac m.cs.length cc) m.cs) (hTB : T < B) (hA : Row w T t [.int .i64 x0, .int .i64 x1, .int .i64 x2, .int .i64 x3]) (hb : But T w w') : StAt w' m ae ce ac cc M := by
 obtain ⟨n, D, hom, hg⟩ := h.map
 have he := z22 h.es hA (z4t (fun _ => Value.noConfusion) (fun _ => Value.noConfusion) (fun _ => Value.noConfusion) (fun _ => Value.noConfusion))
 refine ⟨Sl.keep he (fun b hb2 => hb.block b hb2.2) (fun b hb2 => Nat.lt_of_lt_of_eq hb2.1 hb.size.symm) (fun _ _ h => h), Sl.keep hf (fun b hb2 => hb.block b (by have := hb2.1; omega)) (fun b hb2 => Nat.lt_of_lt_of_eq hb2.2 hb.size.symm) (fun _ _ h => h), h.nil, n, D, z0r hom (hb.block _ (fun e => ?_)), hg⟩
 subst e
 obtain ⟨es, clock, hh, -⟩ := hom
 have hA' : w.heap[M]? = some (.cells [.int .i64 x0, .int .i64 x1, .int .i64 x2, .int .i64 x3].toArray t (0, 0)) := hA
 rw [hA'] at hh
 injection hh with hh; cases hh
theorem z0w (w : World) (p : Addr) : w.drew.cell? p = w.cell? p := rfl
theorem z5g {W : World} {R T : Nat} {t1 t2 : TypeId} (hR : Row W R t1 [.int .i64 0, .slice none 0 0, .slice none 0 0, .map none]) (hT : Row W T t2 [.int .i64 0, .int .i64 0, .int .i64 0, .int .i64 0]) (hne : R ≠ T) (v : Int) (ve vc : Value) (M : Nat) (r : Cli) : Sto W R T v ve vc M r := by
 have h2 : Row (putS W R v ve vc M) T t2 [.int .i64 0, .int .i64 0, .int .i64 0, .int .i64 0] := hT.keep ((z0f W R v ve vc M).block T (Ne.symm hne))
 have h3 := z1b hR v ve vc M
 have h4 : Row (putT (putS W R v ve vc M) T r.id r.sq r.an r.vr) R t1 [.int .i64 v, ve, vc, .map (some M)] := h3.keep ((z10 _ T _ _ _ _).block R hne)
 have h5 := z65 h2 r.id r.sq r.an r.vr
 exact ⟨⟨hR.cell rfl, hR.cell rfl, hR.cell rfl, hR.cell rfl⟩, ⟨hR.thaw _, hR.thaw _, hR.thaw _, hR.thaw _⟩, ⟨h2.cell rfl, h2.cell rfl, h2.cell rfl, h2.cell rfl⟩, ⟨h2.thaw _, h2.thaw _, h2.thaw _, h2.thaw _⟩,
  ⟨h4.cell rfl, h4.cell rfl, h4.cell rfl, h4.cell rfl⟩, ⟨h5.cell rfl, h5.cell rfl, h5.cell rfl, h5.cell rfl⟩,
  fun p hp1 hp2 => ⟨(z0w _ _).trans (World.cell?_of_block ((z0f W R v ve vc M).block p.block hp1)), (z0w _ _).trans ((World.cell?_of_block ((z10 (putS W R v ve vc M) T r.id r.sq r.an r.vr).block p.block hp2)).trans (World.cell?_of_block ((z0f W R v ve vc M).block p.block hp1)))⟩⟩
theorem Sto.keepN {W : World} {R T : Nat} {v : Int} {ve vc : Value} {M : Nat} {r : Cli} (h : Sto W R T v ve vc M r) (p : Addr) (h1 : p.block ≠ R) (h2 : p.block ≠ T) : (putS W R v ve vc M).cell? p = W.cell? p /\ (putT (putS W R v ve vc M) T r.id r.sq r.an r.vr).cell? p = W.cell? p :=
 ⟨(z0w _ _).symm.trans (h.keep p h1 h2).1, (z0w _ _).symm.trans (h.keep p h1 h2).2⟩
structure Tail (v : Int) (es : List Ent) (cs : List Cli) (cl sq : Int) (ch : List Chg) (Lc : Nat) (v2 : Int) (es2 : List Ent) (L2 : Nat) (k2 : Int) : Prop where
 chg : ∀ (W : World) (e : Ending) (w' : World), z1a ⟨v, es, cs⟩ ch W e w' -> ∃ al c1 a2 c2 M2, e = .returned (.tuple #[.agg (stC v2 (.slice al L2 c1) (.slice a2 Lc c2) M2), .int .i64 k2]) /\ StAt w' ⟨v2, es2, cs⟩ al c1 a2 c2 M2 /\ Below W.heap.size W w'
 sto : ∀ (W : World) (al : Option Addr) (c1 : Nat) (a2 : Option Addr) (c2 M2 : Nat), StAt W ⟨v2, es2, cs⟩ al c1 a2 c2 M2 -> Calls Tryz.prog 83 #[.agg (stC v2 (.slice al L2 c1) (.slice a2 Lc c2) M2), clV ⟨cl, sq, k2, v2⟩] W (z1n ⟨v2, es2, putL ⟨cl, sq, k2, v2⟩ cs⟩ W)
 fin : exeF ⟨v, es, cs⟩ ⟨cl, sq, ch⟩ = (⟨v2, es2, putL ⟨cl, sq, k2, v2⟩ cs⟩, ⟨cl, sq, k2, v2⟩)
 len : L2 = es2.length
theorem tail_mk {v : Int} {es : List Ent} {cs : List Cli} {cl sq : Int} {ch : List Chg} {Lc : Nat} (hR : RgtM ⟨v, es, cs⟩) (hci : 1 <= cl /\ cl <= 1073741824) (hLc : Lc = cs.length) : ∃ v2 es2 L2 k2, Tail v es cs cl sq ch Lc v2 es2 L2 k2 := by
 subst hLc
 have hm : chgM ⟨v, es, cs⟩ (chgF v es ch) = ⟨(chgM ⟨v, es, cs⟩ (chgF v es ch)).vr, (chgM ⟨v, es, cs⟩ (chgF v es ch)).es, cs⟩ := by cases chgF v es ch <;> rfl
 have hk : (chgM ⟨v, es, cs⟩ (chgF v es ch)).es.length <= 1000 := by
  cases hk : chgF v es ch with
  | error k => have := (z0p hR.es).len; simp only at this; simp only [chgM]; omega
  | ok l => have := (z0p (chg_ok hk).1).len; simp only [chgM]; omega
 refine ⟨(chgM ⟨v, es, cs⟩ (chgF v es ch)).vr, (chgM ⟨v, es, cs⟩ (chgF v es ch)).es, (chgM ⟨v, es, cs⟩ (chgF v es ch)).es.length, chgE (chgF v es ch), ⟨fun W e w' h => ?_, fun W al c1 a2 c2 M2 h => ?_, exe_eq _ _, rfl⟩⟩
 ·obtain ⟨ae, ce, ac, cc, M, h1, h2, h3⟩ := zav h
  exact ⟨ae, ce, ac, cc, M, h1, by rw [<- hm]; exact h2, h3⟩
 ·exact z8a W ⟨(chgM ⟨v, es, cs⟩ (chgF v es ch)).vr, (chgM ⟨v, es, cs⟩ (chgF v es ch)).es, cs⟩ al c1 a2 c2 M2 ⟨cl, sq, chgE (chgF v es ch), (chgM ⟨v, es, cs⟩ (chgF v es ch)).vr⟩ h hR.cs.srt hR.cs.len hk (fun x hx => (z2e.1 (hR.cs.ok x hx)).1) hci
theorem z7t (w : World) (m : Mdl) (ae : Option Addr) (ce : Nat) (ac : Option Addr) (cc M : Nat) (c : Cmd) (b : Option Addr) (capc : Nat) (hst : StAt w m ae ce ac cc M) (hR : RgtM m) (hM : mayC c = true) (hC : SlH w (Old w) (.slice b c.ch.length capc) c.ch) (hFC : ∀ x, x ∈ c.ch -> FitE x.e) (hE : EnvC w) :
  Calls Tryz.prog 40 #[.agg (stC m.vr (.slice ae m.es.length ce) (.slice ac m.cs.length cc) M), .agg #[.int .i64 c.cl, .int .i64 c.sq, .slice b c.ch.length capc]] w (z41 (doF m c) w) := by
 obtain ⟨⟨hc0, hc1⟩, ⟨hs0, hs1⟩, hn0, hn1⟩ := z6b.1 hM
 have HRM := Lib.hid hR
 have HLT := Lib.hid hst.lt
 obtain ⟨n0, D, hom, hgd⟩ := hst.map
 have HGD := Lib.hid hgd
 have hlen : m.es.length <= 200 /\ m.cs.length <= 16 := ⟨(z0p hR.es).len, hR.cs.len⟩
 have hccl := hst.cs.len
 have HCH := Lib.hid (fun W (h : Below w.heap.size w W) => z8v W m ae ce ac cc M b capc c.ch (hst.old h) (hC.old h) hFC hR (hE.below h))
 have HLTM := Lib.hid (fun W (h : Below w.heap.size w W) => (hst.lt.blw h).at_ h.size)
 obtain ⟨v, es, cs⟩ := m
 obtain ⟨cl, sq, ch⟩ := c
 simp only at hc0 hc1 hs0 hs1 hn0 hn1 hlen hccl HCH HLTM hgd HGD hom ⊢
 have HOMW := Lib.hid hom
 have HCSW := Lib.hid hst.cs
 obtain ⟨Le, HLe⟩ : ∃ L, Hid (L = es.length) := ⟨_, Lib.hid rfl⟩
 obtain ⟨Lc, HLc⟩ : ∃ L, Hid (L = cs.length) := ⟨_, Lib.hid rfl⟩
 obtain ⟨Lh, HLh⟩ : ∃ L, Hid (L = ch.length) := ⟨_, Lib.hid rfl⟩
 have hLc : Lc <= 16 := by have := HLc.out; omega
 have hLcc : Lc <= cc := by have := HLc.out; omega
 obtain ⟨v2, es2, L2, k2, ht⟩ := tail_mk (sq := sq) (ch := ch) hR ⟨hc0, hc1⟩ HLc.out
 have HT := Lib.hid ht
 clear ht
 have HKY : Hid (keyOf Tryz.prog 3 (.int .i64 cl) = some (kI cl)) := Lib.hid (keyOf_int_mk Tryz.underlying3 (wfI (by omega) (by omega)))
 obtain ⟨W1, HW1⟩ : ∃ W, Hid (W = (((w.alloc (.cells (stC v (.slice ae Le ce) (.slice ac Lc cc) M) 73)).alloc (.cells #[.int .i64 cl, .int .i64 sq, .slice b Lh capc] 28)).alloc (.cells #[.int .i64 0, .slice none 0 0, .slice none 0 0, .map none] 73)).alloc (.cells #[.int .i64 0, .int .i64 0, .int .i64 0, .int .i64 0] 32)) := ⟨_, Lib.hid rfl⟩
 have HSZ : Hid (W1.heap.size = w.heap.size + 4) := Lib.hid (by rw [HW1.out]; simp)
 have HB1 : Hid (Below w.heap.size w W1) := Lib.hid (by rw [HW1.out]; exact (z48 w _ _ _).alloc (by simp; omega) _)
 have HRA : Hid (Row W1 w.heap.size 73 [.int .i64 v, .slice ae Le ce, .slice ac Lc cc, .map (some M)]) := Lib.hid (by rw [HW1.out]; exact (((z02 w (stC v (.slice ae Le ce) (.slice ac Lc cc) M) _).alloc _).alloc _).alloc _)
 have HRC : Hid (Row W1 (w.heap.size + 1) 28 [.int .i64 cl, .int .i64 sq, .slice b Lh capc]) := Lib.hid (by
  rw [HW1.out]
  have h := ((z02 (w.alloc (.cells (stC v (.slice ae Le ce) (.slice ac Lc cc) M) 73)) #[.int .i64 cl, .int .i64 sq, .slice b Lh capc] 28).alloc (.cells #[.int .i64 0, .slice none 0 0, .slice none 0 0, .map none] 73)).alloc (.cells #[.int .i64 0, .int .i64 0, .int .i64 0, .int .i64 0] 32)
  simpa only [World.size_alloc] using h)
 have HRR : Hid (Row W1 (w.heap.size + 1 + 1) 73 [.int .i64 0, .slice none 0 0, .slice none 0 0, .map none]) := Lib.hid (by
  rw [HW1.out]
  have h := (z02 ((w.alloc (.cells (stC v (.slice ae Le ce) (.slice ac Lc cc) M) 73)).alloc (.cells #[.int .i64 cl, .int .i64 sq, .slice b Lh capc] 28)) #[.int .i64 0, .slice none 0 0, .slice none 0 0, .map none] 73).alloc (.cells #[.int .i64 0, .int .i64 0, .int .i64 0, .int .i64 0] 32)
  simpa only [World.size_alloc] using h)
 have HRT : Hid (Row W1 (w.heap.size + 1 + 1 + 1) 32 [.int .i64 0, .int .i64 0, .int .i64 0, .int .i64 0]) := Lib.hid (by
  rw [HW1.out]
  have h := z02 (((w.alloc (.cells (stC v (.slice ae Le ce) (.slice ac Lc cc) M) 73)).alloc (.cells #[.int .i64 cl, .int .i64 sq, .slice b Lh capc] 28)).alloc (.cells #[.int .i64 0, .slice none 0 0, .slice none 0 0, .map none] 73)) #[.int .i64 0, .int .i64 0, .int .i64 0, .int .i64 0] 32
  simpa only [World.size_alloc] using h)
 have HO1 : Hid (OMm W1 M n0 D) := Lib.hid (z0r HOMW.out (HB1.out.block _ HLT.out.lt))
 have HO0 : Hid (OMm ((((w.alloc (.cells (stC v (.slice ae Le ce) (.slice ac Lc cc) M) 73)).alloc (.cells #[.int .i64 cl, .int .i64 sq, .slice b Lh capc] 28)).alloc (.cells #[.int .i64 0, .slice none 0 0, .slice none 0 0, .map none] 73)).alloc (.cells #[.int .i64 0, .int .i64 0, .int .i64 0, .int .i64 0] 32)) M n0 D) := Lib.hid (by rw [<- HW1.out]; exact HO1.out)
 have a3 : ((((w.alloc (.cells (stC v (.slice ae Le ce) (.slice ac Lc cc) M) 73)).alloc (.cells #[.int .i64 cl, .int .i64 sq, .slice b Lh capc] 28)).alloc (.cells #[.int .i64 0, .slice none 0 0, .slice none 0 0, .map none] 73)).alloc (.cells #[.int .i64 0, .int .i64 0, .int .i64 0, .int .i64 0] 32)).cell? ⟨w.heap.size, 3, none⟩ = some (.map (some M)) := by rw [<- HW1.out]; exact HRA.out.cell rfl
 have b0 : ((((w.alloc (.cells (stC v (.slice ae Le ce) (.slice ac Lc cc) M) 73)).alloc (.cells #[.int .i64 cl, .int .i64 sq, .slice b Lh capc] 28)).alloc (.cells #[.int .i64 0, .slice none 0 0, .slice none 0 0, .map none] 73)).alloc (.cells #[.int .i64 0, .int .i64 0, .int .i64 0, .int .i64 0] 32)).cell? ⟨w.heap.size + 1, 0, none⟩ = some (.int .i64 cl) := by rw [<- HW1.out]; exact HRC.out.cell rfl
 rw [<- HLe.out, <- HLc.out, <- HLh.out]
 rw [<- HLe.out, <- HLc.out, <- HLh.out] at HCH
 clear hst hR hM hC hFC hE hom hgd hlen hccl hn0 hn1
 go_enter Tryz.func40, Tryz.ntmps40
 cases hhas : Maps.has D (kI cl) with
 | true =>
  obtain ⟨j, x, hx, hxi, hat0⟩ := z9o HGD.out hhas
  have HAT := Lib.hid hat0
  have HXJ := Lib.hid hx
  have HXI := Lib.hid hxi
  have HHAS := Lib.hid hhas
  have HFI := Lib.hid (z8q HRM.out.cs.srt hx hxi)
  have hjl : j < Lc := by
   have h9 := (List.getElem?_eq_some_iff.1 hx).1
   have := HLc.out; omega
  clear hhas hx hxi hat0
  go_wp2_with (at_lookup; refine wpList_lookup_own_ok_int _ rfl _ _ 71 rfl 3 3 .i64 lawI Tryz.underlying71 Tryz.underlying3 (zeroI _) M _ _ rfl HO0.out _ _ rfl HKY.out ?_; intro cw hat hwc; rw [HHAS.out]; (have hcw : cw = (j : Int) := (by rw [HAT.out] at hat; injection hat with h1; injection h1 with h2 h3; exact h3.symm)); subst hcw; clear hat hwc)
  rw [<- HW1.out]
  clear a3 b0 HO0
  obtain ⟨xi, xq, xa, xv⟩ := x
  simp only at HXI HFI
  obtain ⟨b1, off, rfl, hb1, -⟩ := SlL.get (n := cs.length) HCSW.out HXJ.out
  have hb1w : b1 < w.heap.size := hb1
  have HS1 : Hid (∀ W, Below W1.heap.size W1 W -> ((W.cell? ⟨w.heap.size, 0, none⟩ = some (.int .i64 v) /\ W.cell? ⟨w.heap.size, 1, none⟩ = some (.slice ae Le ce) /\ W.cell? ⟨w.heap.size, 2, none⟩ = some (.slice (some ⟨b1, off, none⟩) Lc cc) /\ W.cell? ⟨w.heap.size, 3, none⟩ = some (.map (some M))) /\
    (W.cell? ⟨b1, off + j * 4, none⟩ = some (.int .i64 xi) /\ W.cell? ⟨b1, off + j * 4 + 1, none⟩ = some (.int .i64 xq) /\ W.cell? ⟨b1, off + j * 4 + 2, none⟩ = some (.int .i64 xa) /\ W.cell? ⟨b1, off + j * 4 + 3, none⟩ = some (.int .i64 xv))) /\
    W.cell? ⟨w.heap.size + 1, 1, none⟩ = some (.int .i64 sq) /\ W.cell? ⟨w.heap.size + 1 + 1, 0, none⟩ = some (.int .i64 0) /\ W.cell? ⟨w.heap.size + 1 + 1, 1, none⟩ = some (.slice none 0 0) /\ W.cell? ⟨w.heap.size + 1 + 1, 2, none⟩ = some (.slice none 0 0) /\ W.cell? ⟨w.heap.size + 1 + 1, 3, none⟩ = some (.map none) /\ W.frozen? ⟨w.heap.size + 1 + 1, 0, none⟩ = false /\ W.frozen? ⟨w.heap.size + 1 + 1, 1, none⟩ = false /\ W.frozen? ⟨w.heap.size + 1 + 1, 2, none⟩ = false /\ W.frozen? ⟨w.heap.size + 1 + 1, 3, none⟩ = false /\ W.cell? ⟨w.heap.size + 1 + 1 + 1, 0, none⟩ = some (.int .i64 0) /\ W.cell? ⟨w.heap.size + 1 + 1 + 1, 1, none⟩ = some (.int .i64 0) /\ W.cell? ⟨w.heap.size + 1 + 1 + 1, 2, none⟩ = some (.int .i64 0) /\ W.cell? ⟨w.heap.size + 1 + 1 + 1, 3, none⟩ = some (.int .i64 0) /\ W.frozen? ⟨w.heap.size + 1 + 1 + 1, 0, none⟩ = false /\ W.frozen? ⟨w.heap.size + 1 + 1 + 1, 1, none⟩ = false /\ W.frozen? ⟨w.heap.size + 1 + 1 + 1, 2, none⟩ = false /\ W.frozen? ⟨w.heap.size + 1 + 1 + 1, 3, none⟩ = false) := Lib.hid (fun W h => by
   have ra := HRA.out.below h
   have rr := HRR.out.below h
   have rt := HRT.out.below h
   obtain ⟨b2, off2, hab, -, x0, x1, x2, x3⟩ := (HLTM.out W (z00 HB1.out h)).cs.get HXJ.out
   obtain ⟨rfl, rfl⟩ : b1 = b2 /\ off = off2 := by injection hab with h1; injection h1 with h2 h3; exact ⟨h2, h3⟩
   exact ⟨⟨⟨ra.cell rfl, ra.cell rfl, ra.cell rfl, ra.cell rfl⟩, x0, x1, x2, x3⟩, (HRC.out.below h).cell rfl, rr.cell rfl, rr.cell rfl, rr.cell rfl, rr.cell rfl, rr.thaw _, rr.thaw _, rr.thaw _, rr.thaw _, rt.cell rfl, rt.cell rfl, rt.cell rfl, rt.cell rfl, rt.thaw _, rt.thaw _, rt.thaw _, rt.thaw _⟩)
  have hneb : ¬ (w.heap.size + 1 + 1 = b1) /\ ¬ (w.heap.size + 1 + 1 + 1 = b1) := ⟨by omega, by omega⟩
  obtain ⟨hne1, hne2⟩ := hneb
  have hne3 : ¬ (w.heap.size + 1 + 1 = w.heap.size) := by omega
  have hne4 : ¬ (w.heap.size + 1 + 1 + 1 = w.heap.size) := by omega
  obtain ⟨⟨⟨a0, a1, a2, a3⟩, x0, x1, x2, x3⟩, c1, -⟩ := HS1.out W1 (Below.refl _ _)
  by_cases hxq : xq = sq
  ·subst hxq
   have HDO := Lib.hid (do_same (m := ⟨v, es, cs⟩) (c := ⟨cl, xq, ch⟩) HFI.out rfl)
   go_wp2
   go_quiet (fail)
   have HB2 := Lib.hid (z09 (Below.refl W1.heap.size W1) nq)
   generalize W1.drewN nq = W2 at *
   clear a0 a1 a2 a3 x0 x1 x2 x3 c1
   have hq0 := (HS1.out _ HB2.out.drew).1
   have HSTD := Lib.hid (z5g (HRR.out.below HB2.out) (HRT.out.below HB2.out) (by omega) v (.slice ae Le ce) (.slice (some ⟨b1, off, none⟩) Lc cc) M ⟨xi, xq, xa, xv⟩)
   have HP0 : Hid (((putS W2 (w.heap.size + 1 + 1) v (.slice ae Le ce) (.slice (some ⟨b1, off, none⟩) Lc cc) M).drew.cell? ⟨w.heap.size, 0, none⟩ = some (.int .i64 v) /\ (putS W2 (w.heap.size + 1 + 1) v (.slice ae Le ce) (.slice (some ⟨b1, off, none⟩) Lc cc) M).drew.cell? ⟨w.heap.size, 1, none⟩ = some (.slice ae Le ce) /\ (putS W2 (w.heap.size + 1 + 1) v (.slice ae Le ce) (.slice (some ⟨b1, off, none⟩) Lc cc) M).drew.cell? ⟨w.heap.size, 2, none⟩ = some (.slice (some ⟨b1, off, none⟩) Lc cc) /\ (putS W2 (w.heap.size + 1 + 1) v (.slice ae Le ce) (.slice (some ⟨b1, off, none⟩) Lc cc) M).drew.cell? ⟨w.heap.size, 3, none⟩ = some (.map (some M))) /\ ((putS W2 (w.heap.size + 1 + 1) v (.slice ae Le ce) (.slice (some ⟨b1, off, none⟩) Lc cc) M).drew.cell? ⟨b1, off + j * 4, none⟩ = some (.int .i64 xi) /\ (putS W2 (w.heap.size + 1 + 1) v (.slice ae Le ce) (.slice (some ⟨b1, off, none⟩) Lc cc) M).drew.cell? ⟨b1, off + j * 4 + 1, none⟩ = some (.int .i64 xq) /\ (putS W2 (w.heap.size + 1 + 1) v (.slice ae Le ce) (.slice (some ⟨b1, off, none⟩) Lc cc) M).drew.cell? ⟨b1, off + j * 4 + 2, none⟩ = some (.int .i64 xa) /\ (putS W2 (w.heap.size + 1 + 1) v (.slice ae Le ce) (.slice (some ⟨b1, off, none⟩) Lc cc) M).drew.cell? ⟨b1, off + j * 4 + 3, none⟩ = some (.int .i64 xv))) := Lib.hid (by
    have hkeep := HSTD.out.keep
    obtain ⟨⟨k0, k1, k2, k3⟩, l0, l1, l2, l3⟩ := hq0
    exact ⟨⟨(hkeep ⟨w.heap.size, 0, none⟩ (Ne.symm hne3) (Ne.symm hne4)).1.trans k0, (hkeep ⟨w.heap.size, 1, none⟩ (Ne.symm hne3) (Ne.symm hne4)).1.trans k1, (hkeep ⟨w.heap.size, 2, none⟩ (Ne.symm hne3) (Ne.symm hne4)).1.trans k2, (hkeep ⟨w.heap.size, 3, none⟩ (Ne.symm hne3) (Ne.symm hne4)).1.trans k3⟩, (hkeep ⟨b1, off + j * 4, none⟩ (Ne.symm hne1) (Ne.symm hne2)).1.trans l0, (hkeep ⟨b1, off + j * 4 + 1, none⟩ (Ne.symm hne1) (Ne.symm hne2)).1.trans l1, (hkeep ⟨b1, off + j * 4 + 2, none⟩ (Ne.symm hne1) (Ne.symm hne2)).1.trans l2, (hkeep ⟨b1, off + j * 4 + 3, none⟩ (Ne.symm hne1) (Ne.symm hne2)).1.trans l3⟩)
   have HP1 : Hid (((putT (putS W2 (w.heap.size + 1 + 1) v (.slice ae Le ce) (.slice (some ⟨b1, off, none⟩) Lc cc) M) (w.heap.size + 1 + 1 + 1) xi xq xa xv).drew.cell? ⟨w.heap.size, 0, none⟩ = some (.int .i64 v) /\ (putT (putS W2 (w.heap.size + 1 + 1) v (.slice ae Le ce) (.slice (some ⟨b1, off, none⟩) Lc cc) M) (w.heap.size + 1 + 1 + 1) xi xq xa xv).drew.cell? ⟨w.heap.size, 1, none⟩ = some (.slice ae Le ce) /\ (putT (putS W2 (w.heap.size + 1 + 1) v (.slice ae Le ce) (.slice (some ⟨b1, off, none⟩) Lc cc) M) (w.heap.size + 1 + 1 + 1) xi xq xa xv).drew.cell? ⟨w.heap.size, 2, none⟩ = some (.slice (some ⟨b1, off, none⟩) Lc cc) /\ (putT (putS W2 (w.heap.size + 1 + 1) v (.slice ae Le ce) (.slice (some ⟨b1, off, none⟩) Lc cc) M) (w.heap.size + 1 + 1 + 1) xi xq xa xv).drew.cell? ⟨w.heap.size, 3, none⟩ = some (.map (some M))) /\ ((putT (putS W2 (w.heap.size + 1 + 1) v (.slice ae Le ce) (.slice (some ⟨b1, off, none⟩) Lc cc) M) (w.heap.size + 1 + 1 + 1) xi xq xa xv).drew.cell? ⟨b1, off + j * 4, none⟩ = some (.int .i64 xi) /\ (putT (putS W2 (w.heap.size + 1 + 1) v (.slice ae Le ce) (.slice (some ⟨b1, off, none⟩) Lc cc) M) (w.heap.size + 1 + 1 + 1) xi xq xa xv).drew.cell? ⟨b1, off + j * 4 + 1, none⟩ = some (.int .i64 xq) /\ (putT (putS W2 (w.heap.size + 1 + 1) v (.slice ae Le ce) (.slice (some ⟨b1, off, none⟩) Lc cc) M) (w.heap.size + 1 + 1 + 1) xi xq xa xv).drew.cell? ⟨b1, off + j * 4 + 2, none⟩ = some (.int .i64 xa) /\ (putT (putS W2 (w.heap.size + 1 + 1) v (.slice ae Le ce) (.slice (some ⟨b1, off, none⟩) Lc cc) M) (w.heap.size + 1 + 1 + 1) xi xq xa xv).drew.cell? ⟨b1, off + j * 4 + 3, none⟩ = some (.int .i64 xv))) := Lib.hid (by
    have hkeep := HSTD.out.keep
    obtain ⟨⟨k0, k1, k2, k3⟩, l0, l1, l2, l3⟩ := hq0
    exact ⟨⟨(hkeep ⟨w.heap.size, 0, none⟩ (Ne.symm hne3) (Ne.symm hne4)).2.trans k0, (hkeep ⟨w.heap.size, 1, none⟩ (Ne.symm hne3) (Ne.symm hne4)).2.trans k1, (hkeep ⟨w.heap.size, 2, none⟩ (Ne.symm hne3) (Ne.symm hne4)).2.trans k2, (hkeep ⟨w.heap.size, 3, none⟩ (Ne.symm hne3) (Ne.symm hne4)).2.trans k3⟩, (hkeep ⟨b1, off + j * 4, none⟩ (Ne.symm hne1) (Ne.symm hne2)).2.trans l0, (hkeep ⟨b1, off + j * 4 + 1, none⟩ (Ne.symm hne1) (Ne.symm hne2)).2.trans l1, (hkeep ⟨b1, off + j * 4 + 2, none⟩ (Ne.symm hne1) (Ne.symm hne2)).2.trans l2, (hkeep ⟨b1, off + j * 4 + 3, none⟩ (Ne.symm hne1) (Ne.symm hne2)).2.trans l3⟩)
   have HFIN : Hid (z41 (doF ⟨v, es, cs⟩ ⟨cl, xq, ch⟩) w (.returned (.tuple #[.agg (stC v (.slice ae Le ce) (.slice (some ⟨b1, off, none⟩) Lc cc) M), clV ⟨xi, xq, xa, xv⟩])) (putT (putS W2 (w.heap.size + 1 + 1) v (.slice ae Le ce) (.slice (some ⟨b1, off, none⟩) Lc cc) M) (w.heap.size + 1 + 1 + 1) xi xq xa xv).drew) := Lib.hid (by
    have hb : Below w.heap.size w (putT (putS W2 (w.heap.size + 1 + 1) v (.slice ae Le ce) (.slice (some ⟨b1, off, none⟩) Lc cc) M) (w.heap.size + 1 + 1 + 1) xi xq xa xv).drew := (((z00 HB1.out HB2.out).trans ((z0f _ _ _ _ _ _).below (B := w.heap.size) (by omega))).trans ((z10 _ _ _ _ _ _).below (B := w.heap.size) (by omega))).drew
    rw [HDO.out, HLe.out, HLc.out]
    exact ⟨ae, ce, _, cc, M, rfl, HLTM.out _ (by rw [<- HLe.out, <- HLc.out]; exact hb), by rw [<- HLe.out, <- HLc.out]; exact hb⟩)
   go_wp2
   refine wp_region_noPanic ?_
   refine wp_region_held_drew (S := fun W => (W.cell? ⟨w.heap.size, 0, none⟩ = some (.int .i64 v) /\ W.cell? ⟨w.heap.size, 1, none⟩ = some (.slice ae Le ce) /\ W.cell? ⟨w.heap.size, 2, none⟩ = some (.slice (some ⟨b1, off, none⟩) Lc cc) /\ W.cell? ⟨w.heap.size, 3, none⟩ = some (.map (some M))) /\ (W.cell? ⟨b1, off + j * 4, none⟩ = some (.int .i64 xi) /\ W.cell? ⟨b1, off + j * 4 + 1, none⟩ = some (.int .i64 xq) /\ W.cell? ⟨b1, off + j * 4 + 2, none⟩ = some (.int .i64 xa) /\ W.cell? ⟨b1, off + j * 4 + 3, none⟩ = some (.int .i64 xv))) (by kernel_rfl) ?_ (fun hz0 => ?_)
   ·exact hq0
   refine wpAnyH_take (i := 0) (oi := { dst := some 32, op := .load 73 (.tmp 2), type := 73, pos := "state.go:31", after := #[], guard := none }) (v := ?_) rfl (by kernel_rfl) (by kernel_rfl) (by kernel_rfl) (fun _ _ _ h => h) (Or.inl ⟨by rfl, ?_⟩) (by assumption) ?_
   rotate_left
   ·(intro w hSw; (try dsimp only at hSw); go_simp) <;> with_reducible rfl
   simp only [Act.put, List.setIfInBounds_toArray, List.set_cons_zero, List.set_cons_succ]
   refine wpAnyH_take (i := 1) (oi := { dst := some 33, op := .fieldAddr 73 (.tmp 2) 0, type := 0, pos := "state.go:31", after := #[{ on := 7, ground := .gcOnly .lateStores }], guard := none }) (v := ?_) rfl (by kernel_rfl) (by kernel_rfl) (by kernel_rfl) (fun _ _ _ h => h) (Or.inl ⟨by rfl, ?_⟩) (by assumption) ?_
   rotate_left
   ·(intro w hSw; (try dsimp only at hSw); go_simp) <;> with_reducible rfl
   simp only [Act.put, List.setIfInBounds_toArray, List.set_cons_zero, List.set_cons_succ]
   refine wpAnyH_take (i := 2) (oi := { dst := some 34, op := .fieldAddr 25 (.tmp 33) 2, type := 0, pos := "state.go:31", after := #[{ on := 1, ground := .data }, { on := 7, ground := .gcOnly .lateStores }], guard := none }) (v := ?_) rfl (by kernel_rfl) (by kernel_rfl) (by kernel_rfl) (fun _ _ _ h => h) (Or.inl ⟨by rfl, ?_⟩) (by assumption) ?_
   rotate_left
   ·(intro w hSw; (try dsimp only at hSw); go_simp) <;> with_reducible rfl
   simp only [Act.put, List.setIfInBounds_toArray, List.set_cons_zero, List.set_cons_succ]
   refine wpAnyH_take (i := 3) (oi := { dst := some 35, op := .load 23 (.tmp 34), type := 23, pos := "state.go:31", after := #[{ on := 2, ground := .data }, { on := 7, ground := .gcOnly .lateStores }], guard := none }) (v := ?_) rfl (by kernel_rfl) (by kernel_rfl) (by kernel_rfl) (fun _ _ _ h => h) (Or.inl ⟨by rfl, ?_⟩) (by assumption) ?_
   rotate_left
   ·(intro w hSw; (try dsimp only at hSw); go_simp) <;> with_reducible rfl
   simp only [Act.put, List.setIfInBounds_toArray, List.set_cons_zero, List.set_cons_succ]
   refine wpAnyH_take (i := 4) (oi := { dst := some 36, op := .move (.tmp 6), type := 3, pos := "state.go:31", after := #[{ on := 7, ground := .gcOnly .lateStores }], guard := none }) (v := ?_) rfl (by kernel_rfl) (by kernel_rfl) (by kernel_rfl) (fun _ _ _ h => h) (Or.inl ⟨by rfl, ?_⟩) (by assumption) ?_
   rotate_left
   ·(intro w hSw; (try dsimp only at hSw); go_simp) <;> with_reducible rfl
   simp only [Act.put, List.setIfInBounds_toArray, List.set_cons_zero, List.set_cons_succ]
   refine wpAnyH_take (i := 5) (oi := { dst := some 37, op := .indexAddr 23 (.tmp 35) (.tmp 36), type := 0, pos := "state.go:31", after := #[{ on := 3, ground := .data }, { on := 4, ground := .data }, { on := 7, ground := .gcOnly .lateStores }], guard := none }) (v := ?_) rfl (by kernel_rfl) (by kernel_rfl) (by kernel_rfl) (fun _ _ _ h => h) (Or.inl ⟨by rfl, ?_⟩) (by assumption) ?_
   rotate_left
   ·(intro w hSw; (try dsimp only at hSw); go_simp) <;> with_reducible rfl
   simp only [Act.put, List.setIfInBounds_toArray, List.set_cons_zero, List.set_cons_succ]
   refine wpAnyH_take (i := 6) (oi := { dst := some 38, op := .load 32 (.tmp 37), type := 32, pos := "state.go:31", after := #[{ on := 5, ground := .data }, { on := 7, ground := .gcOnly .lateStores }], guard := none }) (v := ?_) rfl (by kernel_rfl) (by kernel_rfl) (by kernel_rfl) (fun _ _ _ h => h) (Or.inl ⟨by rfl, ?_⟩) (by assumption) ?_
   rotate_left
   ·(intro w hSw; (try dsimp only at hSw); go_simp) <;> with_reducible rfl
   simp only [Act.put, List.setIfInBounds_toArray, List.set_cons_zero, List.set_cons_succ]
   have hstd := HSTD.out
   obtain ⟨r0, r1, r2, r3⟩ := hstd.c1
   obtain ⟨s0, s1, s2, s3⟩ := hstd.f1
   clear hstd hq0
   refine wpAnyH_ready (rs := [7]) (by kernel_rfl) (by simp) ?_
   refine AllReadyH.cons (o := { dst := none, op := .store 73 (.tmp 4) (.tmp 32), type := 0, pos := "state.go:31", after := #[{ on := 0, ground := .data }, { on := 0, ground := .phase }, { on := 1, ground := .textOnly .lateStores }, { on := 2, ground := .textOnly .lateStores }, { on := 3, ground := .textOnly .lateStores }, { on := 4, ground := .textOnly .lateStores }, { on := 5, ground := .textOnly .lateStores }, { on := 6, ground := .textOnly .lateStores }], guard := none }) rfl (fun K hK => ?_) AllReadyH.nil
   go_simp
   refine hK.out _ _ ?_ (fun hz1 => ?_)
   ·exact HP0.out
   clear hK K hz0 r0 r1 r2 r3 s0 s1 s2 s3
   try simp only [Act.put, List.setIfInBounds_toArray, List.set_cons_zero, List.set_cons_succ]
   have hstd := HSTD.out
   obtain ⟨r0, r1, r2, r3⟩ := hstd.c2
   obtain ⟨s0, s1, s2, s3⟩ := hstd.f2
   clear hstd
   refine wpAnyH_ready (rs := [8]) (by kernel_rfl) (by simp) ?_
   refine AllReadyH.cons (o := { dst := none, op := .store 32 (.tmp 5) (.tmp 38), type := 0, pos := "state.go:31", after := #[{ on := 6, ground := .data }, { on := 7, ground := .chain }, { on := 0, ground := .phase }, { on := 1, ground := .phase }, { on := 2, ground := .phase }, { on := 3, ground := .phase }, { on := 4, ground := .phase }, { on := 5, ground := .phase }, { on := 6, ground := .phase }, { on := 7, ground := .phase }], guard := none }) rfl (fun K hK => ?_) AllReadyH.nil
   go_simp
   refine hK.out _ _ ?_ (fun hz2 => ?_)
   ·exact HP1.out
   clear hK K hz1 r0 r1 r2 r3 s0 s1 s2 s3
   try simp only [Act.put, List.setIfInBounds_toArray, List.set_cons_zero, List.set_cons_succ]
   have hstd := HSTD.out
   obtain ⟨f0, f1, f2, f3⟩ := hstd.g1
   obtain ⟨g0, g1, g2, g3⟩ := hstd.g2
   simp only at g0 g1 g2 g3 f0 f1 f2 f3
   clear hstd
   refine wpAnyH_done (by kernel_rfl) ?_ _
   refine NoPanic.normal ?_
   go_wp2
   exact bodyPost_ret (v := .tuple #[.agg (stC v (.slice ae Le ce) (.slice (some ⟨b1, off, none⟩) Lc cc) M), clV ⟨xi, xq, xa, xv⟩]) (by simp [results, Tryz.results40, go_sem, f0, f1, f2, f3, g0, g1, g2, g3]) rfl HFIN.out
  ·by_cases hlt : sq < xq
   ·have HDO := Lib.hid (do_stale (m := ⟨v, es, cs⟩) (c := ⟨cl, sq, ch⟩) HFI.out hxq hlt)
    have hxb : (xq == sq) = false := by rw [beq_eq_false_iff_ne]; exact hxq
    clear hxq
    go_wp2
    go_quiet (fail)
    have HBq := Lib.hid (z09 (Below.refl W1.heap.size W1) nq)
    generalize W1.drewN nq = Wq at *
    clear a0 a1 a2 a3 x0 x1 x2 x3 c1
    obtain ⟨⟨⟨a0, a1, a2, a3⟩, x0, x1, x2, x3⟩, c1, -⟩ := HS1.out Wq HBq.out
    go_wp2
    go_quiet (fail)
    have HB2 := Lib.hid (z09 HBq.out nq)
    generalize Wq.drewN nq = W2 at *
    clear a0 a1 a2 a3 x0 x1 x2 x3 c1
    have HSR : Hid (∀ W, Below W1.heap.size W1 W -> (W.cell? ⟨w.heap.size, 0, none⟩ = some (.int .i64 v) /\ W.cell? ⟨w.heap.size, 1, none⟩ = some (.slice ae Le ce) /\ W.cell? ⟨w.heap.size, 2, none⟩ = some (.slice (some ⟨b1, off, none⟩) Lc cc) /\ W.cell? ⟨w.heap.size, 3, none⟩ = some (.map (some M))) /\ (W.cell? ⟨w.heap.size + 1, 0, none⟩ = some (.int .i64 cl) /\ W.cell? ⟨w.heap.size + 1, 1, none⟩ = some (.int .i64 sq) /\ W.cell? ⟨w.heap.size + 1, 2, none⟩ = some (.slice b Lh capc))) := Lib.hid (fun W h => ⟨⟨(HRA.out.below h).cell rfl, (HRA.out.below h).cell rfl, (HRA.out.below h).cell rfl, (HRA.out.below h).cell rfl⟩, (HRC.out.below h).cell rfl, (HRC.out.below h).cell rfl, (HRC.out.below h).cell rfl⟩)
    have hq0 := HSR.out _ HB2.out.drew
    go_wp2_with fail
    refine wp_region_noPanic ?_
    refine wp_region_held_drew (S := fun W => (W.cell? ⟨w.heap.size, 0, none⟩ = some (.int .i64 v) /\ W.cell? ⟨w.heap.size, 1, none⟩ = some (.slice ae Le ce) /\ W.cell? ⟨w.heap.size, 2, none⟩ = some (.slice (some ⟨b1, off, none⟩) Lc cc) /\ W.cell? ⟨w.heap.size, 3, none⟩ = some (.map (some M))) /\ (W.cell? ⟨w.heap.size + 1, 0, none⟩ = some (.int .i64 cl) /\ W.cell? ⟨w.heap.size + 1, 1, none⟩ = some (.int .i64 sq) /\ W.cell? ⟨w.heap.size + 1, 2, none⟩ = some (.slice b Lh capc))) (by kernel_rfl) ?_ (fun hz0 => ?_)
    ·exact hq0
    refine wpAnyH_take (i := 0) (oi := { dst := some 53, op := .load 73 (.tmp 2), type := 73, pos := "state.go:33", after := #[], guard := none }) (v := ?_) rfl (by kernel_rfl) (by kernel_rfl) (by kernel_rfl) (fun _ _ _ h => h) (Or.inl ⟨by rfl, ?_⟩) (by assumption) ?_
    rotate_left
    ·(intro w hSw; (try dsimp only at hSw); go_simp) <;> with_reducible rfl
    simp only [Act.put, List.setIfInBounds_toArray, List.set_cons_zero, List.set_cons_succ]
    refine wpAnyH_take (i := 1) (oi := { dst := some 54, op := .load 28 (.tmp 3), type := 28, pos := "state.go:33", after := #[], guard := none }) (v := ?_) rfl (by kernel_rfl) (by kernel_rfl) (by kernel_rfl) (fun _ _ _ h => h) (Or.inl ⟨by rfl, ?_⟩) (by assumption) ?_
    rotate_left
    ·(intro w hSw; (try dsimp only at hSw); go_simp) <;> with_reducible rfl
    simp only [Act.put, List.setIfInBounds_toArray, List.set_cons_zero, List.set_cons_succ]
    refine wpAnyH_ready (rs := [2]) (by kernel_rfl) (by simp) ?_
    refine AllReadyH.cons (o := { dst := some 55, op := .call { callee := .value (.func 81), args := #[.tmp 54, .const (.int .i64 121)], argTypes := #[28, 30] }, type := 32, pos := "state.go:33", after := #[{ on := 1, ground := .data }], guard := none }) rfl (fun K hK => ?_) AllReadyH.nil
    go_simp
    refine (z4r _ cl sq _ 121).mono ?_
    rintro e w5 ⟨rfl, hb5⟩
    have HB5 : Hid (Below W1.heap.size W1 w5) := Lib.hid (z00 HB2.out.drew hb5)
    go_wp2_with fail
    refine hK.out _ _ ?_ (fun hz1 => ?_)
    ·exact HSR.out _ HB5.out
    clear hK K hz0 hb5
    try simp only [Act.put, List.setIfInBounds_toArray, List.set_cons_zero, List.set_cons_succ]
    have HSTD := Lib.hid (z5g (HRR.out.below HB5.out) (HRT.out.below HB5.out) (by omega) v (.slice ae Le ce) (.slice (some ⟨b1, off, none⟩) Lc cc) M ⟨cl, sq, 121, 0⟩)
    have HP0 : Hid (((putS w5 (w.heap.size + 1 + 1) v (.slice ae Le ce) (.slice (some ⟨b1, off, none⟩) Lc cc) M).cell? ⟨w.heap.size, 0, none⟩ = some (.int .i64 v) /\ (putS w5 (w.heap.size + 1 + 1) v (.slice ae Le ce) (.slice (some ⟨b1, off, none⟩) Lc cc) M).cell? ⟨w.heap.size, 1, none⟩ = some (.slice ae Le ce) /\ (putS w5 (w.heap.size + 1 + 1) v (.slice ae Le ce) (.slice (some ⟨b1, off, none⟩) Lc cc) M).cell? ⟨w.heap.size, 2, none⟩ = some (.slice (some ⟨b1, off, none⟩) Lc cc) /\ (putS w5 (w.heap.size + 1 + 1) v (.slice ae Le ce) (.slice (some ⟨b1, off, none⟩) Lc cc) M).cell? ⟨w.heap.size, 3, none⟩ = some (.map (some M))) /\ ((putS w5 (w.heap.size + 1 + 1) v (.slice ae Le ce) (.slice (some ⟨b1, off, none⟩) Lc cc) M).cell? ⟨w.heap.size + 1, 0, none⟩ = some (.int .i64 cl) /\ (putS w5 (w.heap.size + 1 + 1) v (.slice ae Le ce) (.slice (some ⟨b1, off, none⟩) Lc cc) M).cell? ⟨w.heap.size + 1, 1, none⟩ = some (.int .i64 sq) /\ (putS w5 (w.heap.size + 1 + 1) v (.slice ae Le ce) (.slice (some ⟨b1, off, none⟩) Lc cc) M).cell? ⟨w.heap.size + 1, 2, none⟩ = some (.slice b Lh capc))) := Lib.hid (by
     have hkeep := HSTD.out.keepN
     obtain ⟨⟨k0, k1, k2, k3⟩, l0, l1, l2⟩ := HSR.out _ HB5.out
     exact ⟨⟨(hkeep ⟨w.heap.size, 0, none⟩ (by show w.heap.size ≠ w.heap.size + 1 + 1; omega) (by show w.heap.size ≠ w.heap.size + 1 + 1 + 1; omega)).1.trans k0, (hkeep ⟨w.heap.size, 1, none⟩ (by show w.heap.size ≠ w.heap.size + 1 + 1; omega) (by show w.heap.size ≠ w.heap.size + 1 + 1 + 1; omega)).1.trans k1, (hkeep ⟨w.heap.size, 2, none⟩ (by show w.heap.size ≠ w.heap.size + 1 + 1; omega) (by show w.heap.size ≠ w.heap.size + 1 + 1 + 1; omega)).1.trans k2, (hkeep ⟨w.heap.size, 3, none⟩ (by show w.heap.size ≠ w.heap.size + 1 + 1; omega) (by show w.heap.size ≠ w.heap.size + 1 + 1 + 1; omega)).1.trans k3⟩, (hkeep ⟨w.heap.size + 1, 0, none⟩ (by show w.heap.size + 1 ≠ w.heap.size + 1 + 1; omega) (by show w.heap.size + 1 ≠ w.heap.size + 1 + 1 + 1; omega)).1.trans l0, (hkeep ⟨w.heap.size + 1, 1, none⟩ (by show w.heap.size + 1 ≠ w.heap.size + 1 + 1; omega) (by show w.heap.size + 1 ≠ w.heap.size + 1 + 1 + 1; omega)).1.trans l1, (hkeep ⟨w.heap.size + 1, 2, none⟩ (by show w.heap.size + 1 ≠ w.heap.size + 1 + 1; omega) (by show w.heap.size + 1 ≠ w.heap.size + 1 + 1 + 1; omega)).1.trans l2⟩)
    have HP1 : Hid (((putT (putS w5 (w.heap.size + 1 + 1) v (.slice ae Le ce) (.slice (some ⟨b1, off, none⟩) Lc cc) M) (w.heap.size + 1 + 1 + 1) cl sq 121 0).cell? ⟨w.heap.size, 0, none⟩ = some (.int .i64 v) /\ (putT (putS w5 (w.heap.size + 1 + 1) v (.slice ae Le ce) (.slice (some ⟨b1, off, none⟩) Lc cc) M) (w.heap.size + 1 + 1 + 1) cl sq 121 0).cell? ⟨w.heap.size, 1, none⟩ = some (.slice ae Le ce) /\ (putT (putS w5 (w.heap.size + 1 + 1) v (.slice ae Le ce) (.slice (some ⟨b1, off, none⟩) Lc cc) M) (w.heap.size + 1 + 1 + 1) cl sq 121 0).cell? ⟨w.heap.size, 2, none⟩ = some (.slice (some ⟨b1, off, none⟩) Lc cc) /\ (putT (putS w5 (w.heap.size + 1 + 1) v (.slice ae Le ce) (.slice (some ⟨b1, off, none⟩) Lc cc) M) (w.heap.size + 1 + 1 + 1) cl sq 121 0).cell? ⟨w.heap.size, 3, none⟩ = some (.map (some M))) /\ ((putT (putS w5 (w.heap.size + 1 + 1) v (.slice ae Le ce) (.slice (some ⟨b1, off, none⟩) Lc cc) M) (w.heap.size + 1 + 1 + 1) cl sq 121 0).cell? ⟨w.heap.size + 1, 0, none⟩ = some (.int .i64 cl) /\ (putT (putS w5 (w.heap.size + 1 + 1) v (.slice ae Le ce) (.slice (some ⟨b1, off, none⟩) Lc cc) M) (w.heap.size + 1 + 1 + 1) cl sq 121 0).cell? ⟨w.heap.size + 1, 1, none⟩ = some (.int .i64 sq) /\ (putT (putS w5 (w.heap.size + 1 + 1) v (.slice ae Le ce) (.slice (some ⟨b1, off, none⟩) Lc cc) M) (w.heap.size + 1 + 1 + 1) cl sq 121 0).cell? ⟨w.heap.size + 1, 2, none⟩ = some (.slice b Lh capc))) := Lib.hid (by
     have hkeep := HSTD.out.keepN
     obtain ⟨⟨k0, k1, k2, k3⟩, l0, l1, l2⟩ := HSR.out _ HB5.out
     exact ⟨⟨(hkeep ⟨w.heap.size, 0, none⟩ (by show w.heap.size ≠ w.heap.size + 1 + 1; omega) (by show w.heap.size ≠ w.heap.size + 1 + 1 + 1; omega)).2.trans k0, (hkeep ⟨w.heap.size, 1, none⟩ (by show w.heap.size ≠ w.heap.size + 1 + 1; omega) (by show w.heap.size ≠ w.heap.size + 1 + 1 + 1; omega)).2.trans k1, (hkeep ⟨w.heap.size, 2, none⟩ (by show w.heap.size ≠ w.heap.size + 1 + 1; omega) (by show w.heap.size ≠ w.heap.size + 1 + 1 + 1; omega)).2.trans k2, (hkeep ⟨w.heap.size, 3, none⟩ (by show w.heap.size ≠ w.heap.size + 1 + 1; omega) (by show w.heap.size ≠ w.heap.size + 1 + 1 + 1; omega)).2.trans k3⟩, (hkeep ⟨w.heap.size + 1, 0, none⟩ (by show w.heap.size + 1 ≠ w.heap.size + 1 + 1; omega) (by show w.heap.size + 1 ≠ w.heap.size + 1 + 1 + 1; omega)).2.trans l0, (hkeep ⟨w.heap.size + 1, 1, none⟩ (by show w.heap.size + 1 ≠ w.heap.size + 1 + 1; omega) (by show w.heap.size + 1 ≠ w.heap.size + 1 + 1 + 1; omega)).2.trans l1, (hkeep ⟨w.heap.size + 1, 2, none⟩ (by show w.heap.size + 1 ≠ w.heap.size + 1 + 1; omega) (by show w.heap.size + 1 ≠ w.heap.size + 1 + 1 + 1; omega)).2.trans l2⟩)
    have HFIN : Hid (z41 (doF ⟨v, es, cs⟩ ⟨cl, sq, ch⟩) w (.returned (.tuple #[.agg (stC v (.slice ae Le ce) (.slice (some ⟨b1, off, none⟩) Lc cc) M), clV ⟨cl, sq, 121, 0⟩])) (putT (putS w5 (w.heap.size + 1 + 1) v (.slice ae Le ce) (.slice (some ⟨b1, off, none⟩) Lc cc) M) (w.heap.size + 1 + 1 + 1) cl sq 121 0)) := Lib.hid (by
     have hb : Below w.heap.size w (putT (putS w5 (w.heap.size + 1 + 1) v (.slice ae Le ce) (.slice (some ⟨b1, off, none⟩) Lc cc) M) (w.heap.size + 1 + 1 + 1) cl sq 121 0) := ((z00 HB1.out HB5.out).trans ((z0f _ _ _ _ _ _).below (B := w.heap.size) (by omega))).trans ((z10 _ _ _ _ _ _).below (B := w.heap.size) (by omega))
     rw [HDO.out, HLe.out, HLc.out]
     exact ⟨ae, ce, _, cc, M, rfl, HLTM.out _ (by rw [<- HLe.out, <- HLc.out]; exact hb), by rw [<- HLe.out, <- HLc.out]; exact hb⟩)
    have hstd := HSTD.out
    obtain ⟨r0, r1, r2, r3⟩ := hstd.c1
    obtain ⟨s0, s1, s2, s3⟩ := hstd.f1
    clear hstd
    refine wpAnyH_ready (rs := [3]) (by kernel_rfl) (by simp) ?_
    refine AllReadyH.cons (o := { dst := none, op := .store 73 (.tmp 4) (.tmp 53), type := 0, pos := "state.go:33", after := #[{ on := 0, ground := .data }, { on := 2, ground := .chain }, { on := 0, ground := .phase }, { on := 1, ground := .textOnly .lateStores }, { on := 2, ground := .textOnly .lateStoresUnsure }], guard := none }) rfl (fun K hK => ?_) AllReadyH.nil
    go_simp
    refine hK.out _ _ ?_ (fun hz2 => ?_)
    ·exact HP0.out
    clear hK K hz1 hq0 r0 r1 r2 r3 s0 s1 s2 s3
    try simp only [Act.put, List.setIfInBounds_toArray, List.set_cons_zero, List.set_cons_succ]
    have hstd := HSTD.out
    obtain ⟨r0, r1, r2, r3⟩ := hstd.c2
    obtain ⟨s0, s1, s2, s3⟩ := hstd.f2
    clear hstd
    refine wpAnyH_ready (rs := [4]) (by kernel_rfl) (by simp) ?_
    refine AllReadyH.cons (o := { dst := none, op := .store 32 (.tmp 5) (.tmp 55), type := 0, pos := "state.go:33", after := #[{ on := 2, ground := .data }, { on := 3, ground := .chain }, { on := 0, ground := .phase }, { on := 1, ground := .phase }, { on := 2, ground := .phase }, { on := 3, ground := .phase }], guard := none }) rfl (fun K hK => ?_) AllReadyH.nil
    go_simp
    refine hK.out _ _ ?_ (fun hz3 => ?_)
    ·exact HP1.out
    clear hK K hz2 r0 r1 r2 r3 s0 s1 s2 s3
    try simp only [Act.put, List.setIfInBounds_toArray, List.set_cons_zero, List.set_cons_succ]
    have hstd := HSTD.out
    obtain ⟨f0, f1, f2, f3⟩ := hstd.g1
    obtain ⟨g0, g1, g2, g3⟩ := hstd.g2
    simp only at g0 g1 g2 g3 f0 f1 f2 f3
    clear hstd hz3
    refine wpAnyH_done (by kernel_rfl) ?_ _
    refine NoPanic.normal ?_
    go_wp2
    exact bodyPost_ret (v := .tuple #[.agg (stC v (.slice ae Le ce) (.slice (some ⟨b1, off, none⟩) Lc cc) M), clV ⟨cl, sq, 121, 0⟩]) (by simp [results, Tryz.results40, go_sem, f0, f1, f2, f3, g0, g1, g2, g3]) rfl HFIN.out
   ·have HDO := Lib.hid (do_exe1 (m := ⟨v, es, cs⟩) (c := ⟨cl, sq, ch⟩) HFI.out hxq hlt)
    have hxb : (xq == sq) = false := by rw [beq_eq_false_iff_ne]; exact hxq
    clear hxq
    go_wp2
    go_quiet (fail)
    have HBq := Lib.hid (z09 (Below.refl W1.heap.size W1) nq)
    generalize W1.drewN nq = Wq at *
    clear a0 a1 a2 a3 x0 x1 x2 x3 c1
    obtain ⟨⟨⟨a0, a1, a2, a3⟩, x0, x1, x2, x3⟩, c1, -⟩ := HS1.out Wq HBq.out
    go_wp2
    go_quiet (fail)
    have HB2 := Lib.hid (z09 HBq.out nq)
    generalize Wq.drewN nq = W2 at *
    clear a0 a1 a2 a3 x0 x1 x2 x3 c1 HS1
    have a0 := (HRA.out.below HB2.out).cell (i := 0) rfl
    have a1 := (HRA.out.below HB2.out).cell (i := 1) rfl
    have a2 := (HRA.out.below HB2.out).cell (i := 2) rfl
    have a3 := (HRA.out.below HB2.out).cell (i := 3) rfl
    have c2 := (HRC.out.below HB2.out).cell (i := 2) rfl
    have HCA := Lib.hid (HCH.out W2 (z00 HB1.out HB2.out))
    clear HCH
    go_wp2_with fail
    refine HCA.out.mono ?_
    rintro e w3 h3
    obtain ⟨al, c1, a2n, c2n, M2, rfl, hst3, hb3⟩ := HT.out.chg _ _ _ h3
    have HB3 : Hid (Below W1.heap.size W1 w3) := Lib.hid (z00 HB2.out hb3)
    have HS3 := Lib.hid hst3
    clear a0 a1 a2 a3 c2 h3 hst3 hb3 HCA
    have hsz3 : w.heap.size + 4 <= w3.heap.size := by have := HB3.out.size; have := HSZ.out; omega
    obtain ⟨W4, HW4⟩ : ∃ W, Hid (W = putS w3 w.heap.size v2 (.slice al L2 c1) (.slice a2n Lc c2n) M2) := ⟨_, Lib.hid rfl⟩
    have RA3 := Lib.hid (HRA.out.below HB3.out)
    have HBT : Hid (But w.heap.size w3 W4) := Lib.hid (by rw [HW4.out]; exact z0f _ _ _ _ _ _)
    have RA4 : Hid (Row W4 w.heap.size 73 [.int .i64 v2, .slice al L2 c1, .slice a2n Lc c2n, .map (some M2)]) := Lib.hid (by rw [HW4.out]; exact z1b RA3.out _ _ _ _)
    have RC4 := Lib.hid ((HRC.out.below HB3.out).keep (HBT.out.block (w.heap.size + 1) (by omega)))
    have RR4 := Lib.hid ((HRR.out.below HB3.out).keep (HBT.out.block (w.heap.size + 1 + 1) (by omega)))
    have RT4 := Lib.hid ((HRT.out.below HB3.out).keep (HBT.out.block (w.heap.size + 1 + 1 + 1) (by omega)))
    have HS4 := Lib.hid (HS3.out.but RA3.out (fun _ => Value.noConfusion) (fun _ => Value.noConfusion) (fun _ => Value.noConfusion) (fun _ => Value.noConfusion) (fun _ => Value.noConfusion) (fun _ => Value.noConfusion) (fun _ => Value.noConfusion) HBT.out)
    have HB4 : Hid (Below w.heap.size w W4) := Lib.hid ((z00 HB1.out HB3.out).trans (HBT.out.below (B := w.heap.size) (by omega)))
    have hsz4 : W4.heap.size = w3.heap.size := HBT.out.size
    have z0 := RA3.out.cell (i := 0) rfl
    have z1 := RA3.out.cell (i := 1) rfl
    have z2 := RA3.out.cell (i := 2) rfl
    have z3 := RA3.out.cell (i := 3) rfl
    have y0 := RA3.out.thaw 0
    have y1 := RA3.out.thaw 1
    have y2 := RA3.out.thaw 2
    have y3 := RA3.out.thaw 3
    have p0 : (putS w3 w.heap.size v2 (.slice al L2 c1) (.slice a2n Lc c2n) M2).cell? ⟨w.heap.size + 1, 0, none⟩ = some (.int .i64 cl) := by rw [<- HW4.out]; exact RC4.out.cell rfl
    have p1 : (putS w3 w.heap.size v2 (.slice al L2 c1) (.slice a2n Lc c2n) M2).cell? ⟨w.heap.size + 1, 1, none⟩ = some (.int .i64 sq) := by rw [<- HW4.out]; exact RC4.out.cell rfl
    have p2 : (putS w3 w.heap.size v2 (.slice al L2 c1) (.slice a2n Lc c2n) M2).cell? ⟨w.heap.size, 0, none⟩ = some (.int .i64 v2) := by rw [<- HW4.out]; exact RA4.out.cell rfl
    go_wp2_with fail
    clear z0 z1 z2 z3 y0 y1 y2 y3 p0 p1 p2
    rw [<- show W4 = (((w3.setCell ⟨w.heap.size, 0, none⟩ (.int .i64 v2)).setCell ⟨w.heap.size, 1, none⟩ (.slice al L2 c1)).setCell ⟨w.heap.size, 2, none⟩ (.slice a2n Lc c2n)).setCell ⟨w.heap.size, 3, none⟩ (.map (some M2)) from HW4.out]
    obtain ⟨W5, HW5⟩ : ∃ W, Hid (W = W4.alloc (.cells #[.int .i64 cl, .int .i64 sq, .int .i64 k2, .int .i64 v2] 32)) := ⟨_, Lib.hid rfl⟩
    have HB5 : Hid (Below W4.heap.size W4 W5) := Lib.hid (by rw [HW5.out]; exact z04 _ _)
    have HRX : Hid (Row W5 w3.heap.size 32 [.int .i64 cl, .int .i64 sq, .int .i64 k2, .int .i64 v2]) := Lib.hid (by rw [HW5.out, <- hsz4]; exact z02 W4 #[.int .i64 cl, .int .i64 sq, .int .i64 k2, .int .i64 v2] _)
    rw [<- HW5.out]
    have HSR : Hid (∀ W, Below W5.heap.size W5 W -> (W.cell? ⟨w.heap.size, 0, none⟩ = some (.int .i64 v2) /\ W.cell? ⟨w.heap.size, 1, none⟩ = some (.slice al L2 c1) /\ W.cell? ⟨w.heap.size, 2, none⟩ = some (.slice a2n Lc c2n) /\ W.cell? ⟨w.heap.size, 3, none⟩ = some (.map (some M2))) /\ (W.cell? ⟨w3.heap.size, 0, none⟩ = some (.int .i64 cl) /\ W.cell? ⟨w3.heap.size, 1, none⟩ = some (.int .i64 sq) /\ W.cell? ⟨w3.heap.size, 2, none⟩ = some (.int .i64 k2) /\ W.cell? ⟨w3.heap.size, 3, none⟩ = some (.int .i64 v2))) := Lib.hid (fun W h => by
     have ra := (RA4.out.below HB5.out).below h
     have rx := HRX.out.below h
     exact ⟨⟨ra.cell rfl, ra.cell rfl, ra.cell rfl, ra.cell rfl⟩, rx.cell rfl, rx.cell rfl, rx.cell rfl, rx.cell rfl⟩)
    have hq0 := HSR.out _ (Below.refl W5.heap.size W5).drew
    have HSC := Lib.hid (HT.out.sto W5.drew al c1 a2n c2n M2 (HS4.out.old HB5.out.drew))
    refine wp_region_noPanic ?_
    refine wp_region_held_drew (S := fun W => (W.cell? ⟨w.heap.size, 0, none⟩ = some (.int .i64 v2) /\ W.cell? ⟨w.heap.size, 1, none⟩ = some (.slice al L2 c1) /\ W.cell? ⟨w.heap.size, 2, none⟩ = some (.slice a2n Lc c2n) /\ W.cell? ⟨w.heap.size, 3, none⟩ = some (.map (some M2))) /\ (W.cell? ⟨w3.heap.size, 0, none⟩ = some (.int .i64 cl) /\ W.cell? ⟨w3.heap.size, 1, none⟩ = some (.int .i64 sq) /\ W.cell? ⟨w3.heap.size, 2, none⟩ = some (.int .i64 k2) /\ W.cell? ⟨w3.heap.size, 3, none⟩ = some (.int .i64 v2))) (by kernel_rfl) ?_ (fun hz0 => ?_)
    ·exact hq0
    refine wpAnyH_take (i := 0) (oi := { dst := some 85, op := .load 73 (.tmp 2), type := 73, pos := "state.go:39", after := #[], guard := none }) (v := ?_) rfl (by kernel_rfl) (by kernel_rfl) (by kernel_rfl) (fun _ _ _ h => h) (Or.inl ⟨by rfl, ?_⟩) (by assumption) ?_
    rotate_left
    ·(intro w hSw; (try dsimp only at hSw); go_simp) <;> with_reducible rfl
    simp only [Act.put, List.setIfInBounds_toArray, List.set_cons_zero, List.set_cons_succ]
    refine wpAnyH_take (i := 1) (oi := { dst := some 86, op := .load 32 (.tmp 9), type := 32, pos := "state.go:39", after := #[], guard := none }) (v := ?_) rfl (by kernel_rfl) (by kernel_rfl) (by kernel_rfl) (fun _ _ _ h => h) (Or.inl ⟨by rfl, ?_⟩) (by assumption) ?_
    rotate_left
    ·(intro w hSw; (try dsimp only at hSw); go_simp) <;> with_reducible rfl
    simp only [Act.put, List.setIfInBounds_toArray, List.set_cons_zero, List.set_cons_succ]
    refine wpAnyH_take (i := 3) (oi := { dst := some 88, op := .load 32 (.tmp 9), type := 32, pos := "state.go:39", after := #[{ on := 4, ground := .gcOnly .lateStores }], guard := none }) (v := ?_) rfl (by kernel_rfl) (by kernel_rfl) (by kernel_rfl) (fun _ _ _ h => h) (Or.inl ⟨by rfl, ?_⟩) (by assumption) ?_
    rotate_left
    ·(intro w hSw; (try dsimp only at hSw); go_simp) <;> with_reducible rfl
    simp only [Act.put, List.setIfInBounds_toArray, List.set_cons_zero, List.set_cons_succ]
    refine wpAnyH_ready (rs := [2]) (by kernel_rfl) (by simp) ?_
    refine AllReadyH.cons (o := { dst := some 87, op := .call { callee := .value (.func 83), args := #[.tmp 85, .tmp 86], argTypes := #[73, 32] }, type := 73, pos := "state.go:39", after := #[{ on := 0, ground := .data }, { on := 1, ground := .data }], guard := none }) rfl (fun K hK => ?_) AllReadyH.nil
    go_simp
    refine HSC.out.mono ?_
    rintro e w6 ⟨ae3, ce3, ac3, cc3, M3, rfl, hst6, hf6, hb6⟩
    obtain ⟨L3, HL3⟩ : ∃ L, Hid (L = (putL ⟨cl, sq, k2, v2⟩ cs).length) := ⟨_, Lib.hid rfl⟩
    have HS6 := Lib.hid hst6
    have HF6 := Lib.hid hf6
    have HB6 : Hid (Below W5.heap.size W5 w6) := Lib.hid (z00 (Below.refl W5.heap.size W5).drew hb6)
    simp only
    rw [<- HL3.out, <- HT.out.len]
    clear hst6 hf6 hb6
    go_wp2_with fail
    refine hK.out _ _ ?_ (fun hz1 => ?_)
    ·exact HSR.out _ HB6.out
    clear hK K hz0
    try simp only [Act.put, List.setIfInBounds_toArray, List.set_cons_zero, List.set_cons_succ]
    have HRR6 := Lib.hid ((RR4.out.below HB5.out).below HB6.out)
    have HRT6 := Lib.hid ((RT4.out.below HB5.out).below HB6.out)
    have HSTD := Lib.hid (z5g HRR6.out HRT6.out (by omega) v2 (.slice ae3 L2 ce3) (.slice ac3 L3 cc3) M3 ⟨cl, sq, k2, v2⟩)
    have HP0 : Hid (((putS w6 (w.heap.size + 1 + 1) v2 (.slice ae3 L2 ce3) (.slice ac3 L3 cc3) M3).cell? ⟨w.heap.size, 0, none⟩ = some (.int .i64 v2) /\ (putS w6 (w.heap.size + 1 + 1) v2 (.slice ae3 L2 ce3) (.slice ac3 L3 cc3) M3).cell? ⟨w.heap.size, 1, none⟩ = some (.slice al L2 c1) /\ (putS w6 (w.heap.size + 1 + 1) v2 (.slice ae3 L2 ce3) (.slice ac3 L3 cc3) M3).cell? ⟨w.heap.size, 2, none⟩ = some (.slice a2n Lc c2n) /\ (putS w6 (w.heap.size + 1 + 1) v2 (.slice ae3 L2 ce3) (.slice ac3 L3 cc3) M3).cell? ⟨w.heap.size, 3, none⟩ = some (.map (some M2))) /\ ((putS w6 (w.heap.size + 1 + 1) v2 (.slice ae3 L2 ce3) (.slice ac3 L3 cc3) M3).cell? ⟨w3.heap.size, 0, none⟩ = some (.int .i64 cl) /\ (putS w6 (w.heap.size + 1 + 1) v2 (.slice ae3 L2 ce3) (.slice ac3 L3 cc3) M3).cell? ⟨w3.heap.size, 1, none⟩ = some (.int .i64 sq) /\ (putS w6 (w.heap.size + 1 + 1) v2 (.slice ae3 L2 ce3) (.slice ac3 L3 cc3) M3).cell? ⟨w3.heap.size, 2, none⟩ = some (.int .i64 k2) /\ (putS w6 (w.heap.size + 1 + 1) v2 (.slice ae3 L2 ce3) (.slice ac3 L3 cc3) M3).cell? ⟨w3.heap.size, 3, none⟩ = some (.int .i64 v2))) := Lib.hid (by
     have hkeep := HSTD.out.keepN
     obtain ⟨⟨k0, k1, k2, k3⟩, l0, l1, l2, l3⟩ := HSR.out _ HB6.out
     exact ⟨⟨(hkeep ⟨w.heap.size, 0, none⟩ (by show w.heap.size ≠ w.heap.size + 1 + 1; omega) (by show w.heap.size ≠ w.heap.size + 1 + 1 + 1; omega)).1.trans k0, (hkeep ⟨w.heap.size, 1, none⟩ (by show w.heap.size ≠ w.heap.size + 1 + 1; omega) (by show w.heap.size ≠ w.heap.size + 1 + 1 + 1; omega)).1.trans k1, (hkeep ⟨w.heap.size, 2, none⟩ (by show w.heap.size ≠ w.heap.size + 1 + 1; omega) (by show w.heap.size ≠ w.heap.size + 1 + 1 + 1; omega)).1.trans k2, (hkeep ⟨w.heap.size, 3, none⟩ (by show w.heap.size ≠ w.heap.size + 1 + 1; omega) (by show w.heap.size ≠ w.heap.size + 1 + 1 + 1; omega)).1.trans k3⟩, (hkeep ⟨w3.heap.size, 0, none⟩ (by show w3.heap.size ≠ w.heap.size + 1 + 1; omega) (by show w3.heap.size ≠ w.heap.size + 1 + 1 + 1; omega)).1.trans l0, (hkeep ⟨w3.heap.size, 1, none⟩ (by show w3.heap.size ≠ w.heap.size + 1 + 1; omega) (by show w3.heap.size ≠ w.heap.size + 1 + 1 + 1; omega)).1.trans l1, (hkeep ⟨w3.heap.size, 2, none⟩ (by show w3.heap.size ≠ w.heap.size + 1 + 1; omega) (by show w3.heap.size ≠ w.heap.size + 1 + 1 + 1; omega)).1.trans l2, (hkeep ⟨w3.heap.size, 3, none⟩ (by show w3.heap.size ≠ w.heap.size + 1 + 1; omega) (by show w3.heap.size ≠ w.heap.size + 1 + 1 + 1; omega)).1.trans l3⟩)
    have HP1 : Hid (((putT (putS w6 (w.heap.size + 1 + 1) v2 (.slice ae3 L2 ce3) (.slice ac3 L3 cc3) M3) (w.heap.size + 1 + 1 + 1) cl sq k2 v2).cell? ⟨w.heap.size, 0, none⟩ = some (.int .i64 v2) /\ (putT (putS w6 (w.heap.size + 1 + 1) v2 (.slice ae3 L2 ce3) (.slice ac3 L3 cc3) M3) (w.heap.size + 1 + 1 + 1) cl sq k2 v2).cell? ⟨w.heap.size, 1, none⟩ = some (.slice al L2 c1) /\ (putT (putS w6 (w.heap.size + 1 + 1) v2 (.slice ae3 L2 ce3) (.slice ac3 L3 cc3) M3) (w.heap.size + 1 + 1 + 1) cl sq k2 v2).cell? ⟨w.heap.size, 2, none⟩ = some (.slice a2n Lc c2n) /\ (putT (putS w6 (w.heap.size + 1 + 1) v2 (.slice ae3 L2 ce3) (.slice ac3 L3 cc3) M3) (w.heap.size + 1 + 1 + 1) cl sq k2 v2).cell? ⟨w.heap.size, 3, none⟩ = some (.map (some M2))) /\ ((putT (putS w6 (w.heap.size + 1 + 1) v2 (.slice ae3 L2 ce3) (.slice ac3 L3 cc3) M3) (w.heap.size + 1 + 1 + 1) cl sq k2 v2).cell? ⟨w3.heap.size, 0, none⟩ = some (.int .i64 cl) /\ (putT (putS w6 (w.heap.size + 1 + 1) v2 (.slice ae3 L2 ce3) (.slice ac3 L3 cc3) M3) (w.heap.size + 1 + 1 + 1) cl sq k2 v2).cell? ⟨w3.heap.size, 1, none⟩ = some (.int .i64 sq) /\ (putT (putS w6 (w.heap.size + 1 + 1) v2 (.slice ae3 L2 ce3) (.slice ac3 L3 cc3) M3) (w.heap.size + 1 + 1 + 1) cl sq k2 v2).cell? ⟨w3.heap.size, 2, none⟩ = some (.int .i64 k2) /\ (putT (putS w6 (w.heap.size + 1 + 1) v2 (.slice ae3 L2 ce3) (.slice ac3 L3 cc3) M3) (w.heap.size + 1 + 1 + 1) cl sq k2 v2).cell? ⟨w3.heap.size, 3, none⟩ = some (.int .i64 v2))) := Lib.hid (by
     have hkeep := HSTD.out.keepN
     obtain ⟨⟨k0, k1, k2, k3⟩, l0, l1, l2, l3⟩ := HSR.out _ HB6.out
     exact ⟨⟨(hkeep ⟨w.heap.size, 0, none⟩ (by show w.heap.size ≠ w.heap.size + 1 + 1; omega) (by show w.heap.size ≠ w.heap.size + 1 + 1 + 1; omega)).2.trans k0, (hkeep ⟨w.heap.size, 1, none⟩ (by show w.heap.size ≠ w.heap.size + 1 + 1; omega) (by show w.heap.size ≠ w.heap.size + 1 + 1 + 1; omega)).2.trans k1, (hkeep ⟨w.heap.size, 2, none⟩ (by show w.heap.size ≠ w.heap.size + 1 + 1; omega) (by show w.heap.size ≠ w.heap.size + 1 + 1 + 1; omega)).2.trans k2, (hkeep ⟨w.heap.size, 3, none⟩ (by show w.heap.size ≠ w.heap.size + 1 + 1; omega) (by show w.heap.size ≠ w.heap.size + 1 + 1 + 1; omega)).2.trans k3⟩, (hkeep ⟨w3.heap.size, 0, none⟩ (by show w3.heap.size ≠ w.heap.size + 1 + 1; omega) (by show w3.heap.size ≠ w.heap.size + 1 + 1 + 1; omega)).2.trans l0, (hkeep ⟨w3.heap.size, 1, none⟩ (by show w3.heap.size ≠ w.heap.size + 1 + 1; omega) (by show w3.heap.size ≠ w.heap.size + 1 + 1 + 1; omega)).2.trans l1, (hkeep ⟨w3.heap.size, 2, none⟩ (by show w3.heap.size ≠ w.heap.size + 1 + 1; omega) (by show w3.heap.size ≠ w.heap.size + 1 + 1 + 1; omega)).2.trans l2, (hkeep ⟨w3.heap.size, 3, none⟩ (by show w3.heap.size ≠ w.heap.size + 1 + 1; omega) (by show w3.heap.size ≠ w.heap.size + 1 + 1 + 1; omega)).2.trans l3⟩)
    have HFIN : Hid (z41 (doF ⟨v, es, cs⟩ ⟨cl, sq, ch⟩) w (.returned (.tuple #[.agg (stC v2 (.slice ae3 L2 ce3) (.slice ac3 L3 cc3) M3), clV ⟨cl, sq, k2, v2⟩])) (putT (putS w6 (w.heap.size + 1 + 1) v2 (.slice ae3 L2 ce3) (.slice ac3 L3 cc3) M3) (w.heap.size + 1 + 1 + 1) cl sq k2 v2)) := Lib.hid (by
     have hb6 : Below w.heap.size w w6 := z00 (z00 HB4.out HB5.out) HB6.out
     have hbR := z0f w6 (w.heap.size + 1 + 1) v2 (.slice ae3 L2 ce3) (.slice ac3 L3 cc3) M3
     have hbT := z10 (putS w6 (w.heap.size + 1 + 1) v2 (.slice ae3 L2 ce3) (.slice ac3 L3 cc3) M3) (w.heap.size + 1 + 1 + 1) cl sq k2 v2
     have hb : Below w.heap.size w (putT (putS w6 (w.heap.size + 1 + 1) v2 (.slice ae3 L2 ce3) (.slice ac3 L3 cc3) M3) (w.heap.size + 1 + 1 + 1) cl sq k2 v2) := (hb6.trans (hbR.below (B := w.heap.size) (by omega))).trans (hbT.below (B := w.heap.size) (by omega))
     have s1 := HS6.out.but HRR6.out (fun _ => Value.noConfusion) (fun _ => Value.noConfusion) (fun _ => Value.noConfusion) (fun _ => Value.noConfusion) (fun _ => Value.noConfusion) (fun _ => Value.noConfusion) (fun _ => Value.noConfusion) hbR
     have f1 : SlL (putS w6 (w.heap.size + 1 + 1) v2 (.slice ae3 L2 ce3) (.slice ac3 L3 cc3) M3) (Fsh W5.drew.heap.size (putS w6 (w.heap.size + 1 + 1) v2 (.slice ae3 L2 ce3) (.slice ac3 L3 cc3) M3)) (.slice ac3 (putL ⟨cl, sq, k2, v2⟩ cs).length cc3) (putL ⟨cl, sq, k2, v2⟩ cs) := Sl.keep HF6.out (fun b hb => hbR.block b (by have h9 := hb.1; have h8 := HB5.out.size; show b ≠ w.heap.size + 1 + 1; simp only [World.drew] at h9; omega)) (fun b hb => ⟨hb.1, Nat.lt_of_lt_of_eq hb.2 hbR.size.symm⟩) (fun _ _ h => h)
     have s2 := s1.butT f1 (by have h8 := HB5.out.size; simp only [World.drew]; omega) (HRT6.out.keep (hbR.block (w.heap.size + 1 + 1 + 1) (by omega))) hbT
     rw [HDO.out, HT.out.fin]
     exact ⟨ae3, ce3, ac3, cc3, M3, by rw [HL3.out, HT.out.len], s2, hb⟩)
    have hstd := HSTD.out
    obtain ⟨r0, r1, r2, r3⟩ := hstd.c1
    obtain ⟨s0, s1, s2, s3⟩ := hstd.f1
    clear hstd
    refine wpAnyH_ready (rs := [4]) (by kernel_rfl) (by simp) ?_
    refine AllReadyH.cons (o := { dst := none, op := .store 73 (.tmp 4) (.tmp 87), type := 0, pos := "state.go:39", after := #[{ on := 2, ground := .data }, { on := 2, ground := .chain }, { on := 0, ground := .phase }, { on := 1, ground := .phase }, { on := 2, ground := .phase }, { on := 3, ground := .textOnly .lateStores }], guard := none }) rfl (fun K hK => ?_) AllReadyH.nil
    go_simp
    refine hK.out _ _ ?_ (fun hz2 => ?_)
    ·exact HP0.out
    clear hK K hz1 hq0 r0 r1 r2 r3 s0 s1 s2 s3
    try simp only [Act.put, List.setIfInBounds_toArray, List.set_cons_zero, List.set_cons_succ]
    have hstd := HSTD.out
    obtain ⟨r0, r1, r2, r3⟩ := hstd.c2
    obtain ⟨s0, s1, s2, s3⟩ := hstd.f2
    clear hstd
    refine wpAnyH_ready (rs := [5]) (by kernel_rfl) (by simp) ?_
    refine AllReadyH.cons (o := { dst := none, op := .store 32 (.tmp 5) (.tmp 88), type := 0, pos := "state.go:39", after := #[{ on := 3, ground := .data }, { on := 4, ground := .chain }, { on := 0, ground := .phase }, { on := 1, ground := .phase }, { on := 2, ground := .phase }, { on := 3, ground := .phase }, { on := 4, ground := .phase }], guard := none }) rfl (fun K hK => ?_) AllReadyH.nil
    go_simp
    refine hK.out _ _ ?_ (fun hz3 => ?_)
    ·exact HP1.out
    clear hK K hz2 r0 r1 r2 r3 s0 s1 s2 s3
    try simp only [Act.put, List.setIfInBounds_toArray, List.set_cons_zero, List.set_cons_succ]
    have hstd := HSTD.out
    obtain ⟨f0, f1, f2, f3⟩ := hstd.g1
    obtain ⟨g0, g1, g2, g3⟩ := hstd.g2
    simp only at g0 g1 g2 g3 f0 f1 f2 f3
    clear hstd hz3
    refine wpAnyH_done (by kernel_rfl) ?_ _
    refine NoPanic.normal ?_
    go_wp2
    exact bodyPost_ret (v := .tuple #[.agg (stC v2 (.slice ae3 L2 ce3) (.slice ac3 L3 cc3) M3), clV ⟨cl, sq, k2, v2⟩]) (by simp [results, Tryz.results40, go_sem, f0, f1, f2, f3, g0, g1, g2, g3]) rfl HFIN.out
 | false =>
  have HHAS := Lib.hid hhas
  have HFI : Hid (z0x cs cl = none) := Lib.hid (z1m.2 (good_no HGD.out hhas))
  clear hhas
  go_wp2_with (at_lookup; refine wpList_lookup_own_ok_int _ rfl _ _ 71 rfl 3 3 .i64 lawI Tryz.underlying71 Tryz.underlying3 (zeroI _) M _ _ rfl HO0.out _ _ rfl HKY.out ?_; intro cw hat hwc; rw [HHAS.out]; clear hat hwc)
  rw [<- HW1.out]
  clear a3 b0 HO0
  by_cases h16 : Lc = 16
  ·have HDO := Lib.hid (do_full (m := ⟨v, es, cs⟩) (c := ⟨cl, sq, ch⟩) HFI.out (HLc.out.symm.trans h16))
   have h16b : ((Lc : Int) == 16) = true := by rw [beq_iff_eq]; omega
   clear h16
   have a2 := HRA.out.cell (i := 2) rfl
   go_wp2
   go_quiet (fail)
   have HBq := Lib.hid (z09 (Below.refl W1.heap.size W1) nq)
   generalize W1.drewN nq = Wq at *
   go_wp2
   go_quiet (fail)
   have HB2 := Lib.hid (z09 HBq.out nq)
   generalize Wq.drewN nq = W2 at *
   clear a2
   have a2 := (HRA.out.below HB2.out).cell (i := 2) rfl
   go_wp2_with fail
   have HSR : Hid (∀ W, Below W1.heap.size W1 W -> (W.cell? ⟨w.heap.size, 0, none⟩ = some (.int .i64 v) /\ W.cell? ⟨w.heap.size, 1, none⟩ = some (.slice ae Le ce) /\ W.cell? ⟨w.heap.size, 2, none⟩ = some (.slice ac Lc cc) /\ W.cell? ⟨w.heap.size, 3, none⟩ = some (.map (some M))) /\ (W.cell? ⟨w.heap.size + 1, 0, none⟩ = some (.int .i64 cl) /\ W.cell? ⟨w.heap.size + 1, 1, none⟩ = some (.int .i64 sq) /\ W.cell? ⟨w.heap.size + 1, 2, none⟩ = some (.slice b Lh capc))) := Lib.hid (fun W h => ⟨⟨(HRA.out.below h).cell rfl, (HRA.out.below h).cell rfl, (HRA.out.below h).cell rfl, (HRA.out.below h).cell rfl⟩, (HRC.out.below h).cell rfl, (HRC.out.below h).cell rfl, (HRC.out.below h).cell rfl⟩)
   have hq0 := HSR.out _ HB2.out.drew
   go_wp2_with fail
   refine wp_region_noPanic ?_
   refine wp_region_held_drew (S := fun W => (W.cell? ⟨w.heap.size, 0, none⟩ = some (.int .i64 v) /\ W.cell? ⟨w.heap.size, 1, none⟩ = some (.slice ae Le ce) /\ W.cell? ⟨w.heap.size, 2, none⟩ = some (.slice ac Lc cc) /\ W.cell? ⟨w.heap.size, 3, none⟩ = some (.map (some M))) /\ (W.cell? ⟨w.heap.size + 1, 0, none⟩ = some (.int .i64 cl) /\ W.cell? ⟨w.heap.size + 1, 1, none⟩ = some (.int .i64 sq) /\ W.cell? ⟨w.heap.size + 1, 2, none⟩ = some (.slice b Lh capc))) (by kernel_rfl) ?_ (fun hz0 => ?_)
   ·exact hq0
   refine wpAnyH_take (i := 0) (oi := { dst := some 66, op := .load 73 (.tmp 2), type := 73, pos := "state.go:35", after := #[], guard := none }) (v := ?_) rfl (by kernel_rfl) (by kernel_rfl) (by kernel_rfl) (fun _ _ _ h => h) (Or.inl ⟨by rfl, ?_⟩) (by assumption) ?_
   rotate_left
   ·(intro w hSw; (try dsimp only at hSw); go_simp) <;> with_reducible rfl
   simp only [Act.put, List.setIfInBounds_toArray, List.set_cons_zero, List.set_cons_succ]
   refine wpAnyH_take (i := 1) (oi := { dst := some 67, op := .load 28 (.tmp 3), type := 28, pos := "state.go:35", after := #[], guard := none }) (v := ?_) rfl (by kernel_rfl) (by kernel_rfl) (by kernel_rfl) (fun _ _ _ h => h) (Or.inl ⟨by rfl, ?_⟩) (by assumption) ?_
   rotate_left
   ·(intro w hSw; (try dsimp only at hSw); go_simp) <;> with_reducible rfl
   simp only [Act.put, List.setIfInBounds_toArray, List.set_cons_zero, List.set_cons_succ]
   refine wpAnyH_ready (rs := [2]) (by kernel_rfl) (by simp) ?_
   refine AllReadyH.cons (o := { dst := some 68, op := .call { callee := .value (.func 81), args := #[.tmp 67, .const (.int .i64 130)], argTypes := #[28, 30] }, type := 32, pos := "state.go:35", after := #[{ on := 1, ground := .data }], guard := none }) rfl (fun K hK => ?_) AllReadyH.nil
   go_simp
   refine (z4r _ cl sq _ 130).mono ?_
   rintro e w5 ⟨rfl, hb5⟩
   have HB5 : Hid (Below W1.heap.size W1 w5) := Lib.hid (z00 HB2.out.drew hb5)
   go_wp2_with fail
   refine hK.out _ _ ?_ (fun hz1 => ?_)
   ·exact HSR.out _ HB5.out
   clear hK K hz0 hb5
   try simp only [Act.put, List.setIfInBounds_toArray, List.set_cons_zero, List.set_cons_succ]
   have HSTD := Lib.hid (z5g (HRR.out.below HB5.out) (HRT.out.below HB5.out) (by omega) v (.slice ae Le ce) (.slice ac Lc cc) M ⟨cl, sq, 130, 0⟩)
   have HP0 : Hid (((putS w5 (w.heap.size + 1 + 1) v (.slice ae Le ce) (.slice ac Lc cc) M).cell? ⟨w.heap.size, 0, none⟩ = some (.int .i64 v) /\ (putS w5 (w.heap.size + 1 + 1) v (.slice ae Le ce) (.slice ac Lc cc) M).cell? ⟨w.heap.size, 1, none⟩ = some (.slice ae Le ce) /\ (putS w5 (w.heap.size + 1 + 1) v (.slice ae Le ce) (.slice ac Lc cc) M).cell? ⟨w.heap.size, 2, none⟩ = some (.slice ac Lc cc) /\ (putS w5 (w.heap.size + 1 + 1) v (.slice ae Le ce) (.slice ac Lc cc) M).cell? ⟨w.heap.size, 3, none⟩ = some (.map (some M))) /\ ((putS w5 (w.heap.size + 1 + 1) v (.slice ae Le ce) (.slice ac Lc cc) M).cell? ⟨w.heap.size + 1, 0, none⟩ = some (.int .i64 cl) /\ (putS w5 (w.heap.size + 1 + 1) v (.slice ae Le ce) (.slice ac Lc cc) M).cell? ⟨w.heap.size + 1, 1, none⟩ = some (.int .i64 sq) /\ (putS w5 (w.heap.size + 1 + 1) v (.slice ae Le ce) (.slice ac Lc cc) M).cell? ⟨w.heap.size + 1, 2, none⟩ = some (.slice b Lh capc))) := Lib.hid (by
    have hkeep := HSTD.out.keepN
    obtain ⟨⟨k0, k1, k2, k3⟩, l0, l1, l2⟩ := HSR.out _ HB5.out
    exact ⟨⟨(hkeep ⟨w.heap.size, 0, none⟩ (by show w.heap.size ≠ w.heap.size + 1 + 1; omega) (by show w.heap.size ≠ w.heap.size + 1 + 1 + 1; omega)).1.trans k0, (hkeep ⟨w.heap.size, 1, none⟩ (by show w.heap.size ≠ w.heap.size + 1 + 1; omega) (by show w.heap.size ≠ w.heap.size + 1 + 1 + 1; omega)).1.trans k1, (hkeep ⟨w.heap.size, 2, none⟩ (by show w.heap.size ≠ w.heap.size + 1 + 1; omega) (by show w.heap.size ≠ w.heap.size + 1 + 1 + 1; omega)).1.trans k2, (hkeep ⟨w.heap.size, 3, none⟩ (by show w.heap.size ≠ w.heap.size + 1 + 1; omega) (by show w.heap.size ≠ w.heap.size + 1 + 1 + 1; omega)).1.trans k3⟩, (hkeep ⟨w.heap.size + 1, 0, none⟩ (by show w.heap.size + 1 ≠ w.heap.size + 1 + 1; omega) (by show w.heap.size + 1 ≠ w.heap.size + 1 + 1 + 1; omega)).1.trans l0, (hkeep ⟨w.heap.size + 1, 1, none⟩ (by show w.heap.size + 1 ≠ w.heap.size + 1 + 1; omega) (by show w.heap.size + 1 ≠ w.heap.size + 1 + 1 + 1; omega)).1.trans l1, (hkeep ⟨w.heap.size + 1, 2, none⟩ (by show w.heap.size + 1 ≠ w.heap.size + 1 + 1; omega) (by show w.heap.size + 1 ≠ w.heap.size + 1 + 1 + 1; omega)).1.trans l2⟩)
   have HP1 : Hid (((putT (putS w5 (w.heap.size + 1 + 1) v (.slice ae Le ce) (.slice ac Lc cc) M) (w.heap.size + 1 + 1 + 1) cl sq 130 0).cell? ⟨w.heap.size, 0, none⟩ = some (.int .i64 v) /\ (putT (putS w5 (w.heap.size + 1 + 1) v (.slice ae Le ce) (.slice ac Lc cc) M) (w.heap.size + 1 + 1 + 1) cl sq 130 0).cell? ⟨w.heap.size, 1, none⟩ = some (.slice ae Le ce) /\ (putT (putS w5 (w.heap.size + 1 + 1) v (.slice ae Le ce) (.slice ac Lc cc) M) (w.heap.size + 1 + 1 + 1) cl sq 130 0).cell? ⟨w.heap.size, 2, none⟩ = some (.slice ac Lc cc) /\ (putT (putS w5 (w.heap.size + 1 + 1) v (.slice ae Le ce) (.slice ac Lc cc) M) (w.heap.size + 1 + 1 + 1) cl sq 130 0).cell? ⟨w.heap.size, 3, none⟩ = some (.map (some M))) /\ ((putT (putS w5 (w.heap.size + 1 + 1) v (.slice ae Le ce) (.slice ac Lc cc) M) (w.heap.size + 1 + 1 + 1) cl sq 130 0).cell? ⟨w.heap.size + 1, 0, none⟩ = some (.int .i64 cl) /\ (putT (putS w5 (w.heap.size + 1 + 1) v (.slice ae Le ce) (.slice ac Lc cc) M) (w.heap.size + 1 + 1 + 1) cl sq 130 0).cell? ⟨w.heap.size + 1, 1, none⟩ = some (.int .i64 sq) /\ (putT (putS w5 (w.heap.size + 1 + 1) v (.slice ae Le ce) (.slice ac Lc cc) M) (w.heap.size + 1 + 1 + 1) cl sq 130 0).cell? ⟨w.heap.size + 1, 2, none⟩ = some (.slice b Lh capc))) := Lib.hid (by
    have hkeep := HSTD.out.keepN
    obtain ⟨⟨k0, k1, k2, k3⟩, l0, l1, l2⟩ := HSR.out _ HB5.out
    exact ⟨⟨(hkeep ⟨w.heap.size, 0, none⟩ (by show w.heap.size ≠ w.heap.size + 1 + 1; omega) (by show w.heap.size ≠ w.heap.size + 1 + 1 + 1; omega)).2.trans k0, (hkeep ⟨w.heap.size, 1, none⟩ (by show w.heap.size ≠ w.heap.size + 1 + 1; omega) (by show w.heap.size ≠ w.heap.size + 1 + 1 + 1; omega)).2.trans k1, (hkeep ⟨w.heap.size, 2, none⟩ (by show w.heap.size ≠ w.heap.size + 1 + 1; omega) (by show w.heap.size ≠ w.heap.size + 1 + 1 + 1; omega)).2.trans k2, (hkeep ⟨w.heap.size, 3, none⟩ (by show w.heap.size ≠ w.heap.size + 1 + 1; omega) (by show w.heap.size ≠ w.heap.size + 1 + 1 + 1; omega)).2.trans k3⟩, (hkeep ⟨w.heap.size + 1, 0, none⟩ (by show w.heap.size + 1 ≠ w.heap.size + 1 + 1; omega) (by show w.heap.size + 1 ≠ w.heap.size + 1 + 1 + 1; omega)).2.trans l0, (hkeep ⟨w.heap.size + 1, 1, none⟩ (by show w.heap.size + 1 ≠ w.heap.size + 1 + 1; omega) (by show w.heap.size + 1 ≠ w.heap.size + 1 + 1 + 1; omega)).2.trans l1, (hkeep ⟨w.heap.size + 1, 2, none⟩ (by show w.heap.size + 1 ≠ w.heap.size + 1 + 1; omega) (by show w.heap.size + 1 ≠ w.heap.size + 1 + 1 + 1; omega)).2.trans l2⟩)
   have HFIN : Hid (z41 (doF ⟨v, es, cs⟩ ⟨cl, sq, ch⟩) w (.returned (.tuple #[.agg (stC v (.slice ae Le ce) (.slice ac Lc cc) M), clV ⟨cl, sq, 130, 0⟩])) (putT (putS w5 (w.heap.size + 1 + 1) v (.slice ae Le ce) (.slice ac Lc cc) M) (w.heap.size + 1 + 1 + 1) cl sq 130 0)) := Lib.hid (by
    have hb : Below w.heap.size w (putT (putS w5 (w.heap.size + 1 + 1) v (.slice ae Le ce) (.slice ac Lc cc) M) (w.heap.size + 1 + 1 + 1) cl sq 130 0) := ((z00 HB1.out HB5.out).trans ((z0f _ _ _ _ _ _).below (B := w.heap.size) (by omega))).trans ((z10 _ _ _ _ _ _).below (B := w.heap.size) (by omega))
    rw [HDO.out, HLe.out, HLc.out]
    exact ⟨ae, ce, _, cc, M, rfl, HLTM.out _ (by rw [<- HLe.out, <- HLc.out]; exact hb), by rw [<- HLe.out, <- HLc.out]; exact hb⟩)
   have hstd := HSTD.out
   obtain ⟨r0, r1, r2, r3⟩ := hstd.c1
   obtain ⟨s0, s1, s2, s3⟩ := hstd.f1
   clear hstd
   refine wpAnyH_ready (rs := [3]) (by kernel_rfl) (by simp) ?_
   refine AllReadyH.cons (o := { dst := none, op := .store 73 (.tmp 4) (.tmp 66), type := 0, pos := "state.go:35", after := #[{ on := 0, ground := .data }, { on := 2, ground := .chain }, { on := 0, ground := .phase }, { on := 1, ground := .textOnly .lateStores }, { on := 2, ground := .textOnly .lateStoresUnsure }], guard := none }) rfl (fun K hK => ?_) AllReadyH.nil
   go_simp
   refine hK.out _ _ ?_ (fun hz2 => ?_)
   ·exact HP0.out
   clear hK K hz1 hq0 r0 r1 r2 r3 s0 s1 s2 s3
   try simp only [Act.put, List.setIfInBounds_toArray, List.set_cons_zero, List.set_cons_succ]
   have hstd := HSTD.out
   obtain ⟨r0, r1, r2, r3⟩ := hstd.c2
   obtain ⟨s0, s1, s2, s3⟩ := hstd.f2
   clear hstd
   refine wpAnyH_ready (rs := [4]) (by kernel_rfl) (by simp) ?_
   refine AllReadyH.cons (o := { dst := none, op := .store 32 (.tmp 5) (.tmp 68), type := 0, pos := "state.go:35", after := #[{ on := 2, ground := .data }, { on := 3, ground := .chain }, { on := 0, ground := .phase }, { on := 1, ground := .phase }, { on := 2, ground := .phase }, { on := 3, ground := .phase }], guard := none }) rfl (fun K hK => ?_) AllReadyH.nil
   go_simp
   refine hK.out _ _ ?_ (fun hz3 => ?_)
   ·exact HP1.out
   clear hK K hz2 r0 r1 r2 r3 s0 s1 s2 s3
   try simp only [Act.put, List.setIfInBounds_toArray, List.set_cons_zero, List.set_cons_succ]
   have hstd := HSTD.out
   obtain ⟨f0, f1, f2, f3⟩ := hstd.g1
   obtain ⟨g0, g1, g2, g3⟩ := hstd.g2
   simp only at g0 g1 g2 g3 f0 f1 f2 f3
   clear hstd hz3
   refine wpAnyH_done (by kernel_rfl) ?_ _
   refine NoPanic.normal ?_
   go_wp2
   exact bodyPost_ret (v := .tuple #[.agg (stC v (.slice ae Le ce) (.slice ac Lc cc) M), clV ⟨cl, sq, 130, 0⟩]) (by simp [results, Tryz.results40, go_sem, f0, f1, f2, f3, g0, g1, g2, g3]) rfl HFIN.out
  ·have HDO := Lib.hid (do_exe2 (m := ⟨v, es, cs⟩) (c := ⟨cl, sq, ch⟩) HFI.out (fun h => h16 (HLc.out.trans h)))
   have h16b : ((Lc : Int) == 16) = false := by rw [beq_eq_false_iff_ne]; omega
   clear h16
   have a2 := HRA.out.cell (i := 2) rfl
   go_wp2
   go_quiet (fail)
   have HBq := Lib.hid (z09 (Below.refl W1.heap.size W1) nq)
   generalize W1.drewN nq = Wq at *
   go_wp2
   go_quiet (fail)
   have HB2 := Lib.hid (z09 HBq.out nq)
   generalize Wq.drewN nq = W2 at *
   clear a2
   have a0 := (HRA.out.below HB2.out).cell (i := 0) rfl
   have a1 := (HRA.out.below HB2.out).cell (i := 1) rfl
   have a2 := (HRA.out.below HB2.out).cell (i := 2) rfl
   have a3 := (HRA.out.below HB2.out).cell (i := 3) rfl
   have c2 := (HRC.out.below HB2.out).cell (i := 2) rfl
   have HCA := Lib.hid (HCH.out W2 (z00 HB1.out HB2.out))
   clear HCH
   go_wp2_with fail
   refine HCA.out.mono ?_
   rintro e w3 h3
   obtain ⟨al, c1, a2n, c2n, M2, rfl, hst3, hb3⟩ := HT.out.chg _ _ _ h3
   have HB3 : Hid (Below W1.heap.size W1 w3) := Lib.hid (z00 HB2.out hb3)
   have HS3 := Lib.hid hst3
   clear a0 a1 a2 a3 c2 h3 hst3 hb3 HCA
   have hsz3 : w.heap.size + 4 <= w3.heap.size := by have := HB3.out.size; have := HSZ.out; omega
   obtain ⟨W4, HW4⟩ : ∃ W, Hid (W = putS w3 w.heap.size v2 (.slice al L2 c1) (.slice a2n Lc c2n) M2) := ⟨_, Lib.hid rfl⟩
   have RA3 := Lib.hid (HRA.out.below HB3.out)
   have HBT : Hid (But w.heap.size w3 W4) := Lib.hid (by rw [HW4.out]; exact z0f _ _ _ _ _ _)
   have RA4 : Hid (Row W4 w.heap.size 73 [.int .i64 v2, .slice al L2 c1, .slice a2n Lc c2n, .map (some M2)]) := Lib.hid (by rw [HW4.out]; exact z1b RA3.out _ _ _ _)
   have RC4 := Lib.hid ((HRC.out.below HB3.out).keep (HBT.out.block (w.heap.size + 1) (by omega)))
   have RR4 := Lib.hid ((HRR.out.below HB3.out).keep (HBT.out.block (w.heap.size + 1 + 1) (by omega)))
   have RT4 := Lib.hid ((HRT.out.below HB3.out).keep (HBT.out.block (w.heap.size + 1 + 1 + 1) (by omega)))
   have HS4 := Lib.hid (HS3.out.but RA3.out (fun _ => Value.noConfusion) (fun _ => Value.noConfusion) (fun _ => Value.noConfusion) (fun _ => Value.noConfusion) (fun _ => Value.noConfusion) (fun _ => Value.noConfusion) (fun _ => Value.noConfusion) HBT.out)
   have HB4 : Hid (Below w.heap.size w W4) := Lib.hid ((z00 HB1.out HB3.out).trans (HBT.out.below (B := w.heap.size) (by omega)))
   have hsz4 : W4.heap.size = w3.heap.size := HBT.out.size
   have z0 := RA3.out.cell (i := 0) rfl
   have z1 := RA3.out.cell (i := 1) rfl
   have z2 := RA3.out.cell (i := 2) rfl
   have z3 := RA3.out.cell (i := 3) rfl
   have y0 := RA3.out.thaw 0
   have y1 := RA3.out.thaw 1
   have y2 := RA3.out.thaw 2
   have y3 := RA3.out.thaw 3
   have p0 : (putS w3 w.heap.size v2 (.slice al L2 c1) (.slice a2n Lc c2n) M2).cell? ⟨w.heap.size + 1, 0, none⟩ = some (.int .i64 cl) := by rw [<- HW4.out]; exact RC4.out.cell rfl
   have p1 : (putS w3 w.heap.size v2 (.slice al L2 c1) (.slice a2n Lc c2n) M2).cell? ⟨w.heap.size + 1, 1, none⟩ = some (.int .i64 sq) := by rw [<- HW4.out]; exact RC4.out.cell rfl
   have p2 : (putS w3 w.heap.size v2 (.slice al L2 c1) (.slice a2n Lc c2n) M2).cell? ⟨w.heap.size, 0, none⟩ = some (.int .i64 v2) := by rw [<- HW4.out]; exact RA4.out.cell rfl
   go_wp2_with fail
   clear z0 z1 z2 z3 y0 y1 y2 y3 p0 p1 p2
   rw [<- show W4 = (((w3.setCell ⟨w.heap.size, 0, none⟩ (.int .i64 v2)).setCell ⟨w.heap.size, 1, none⟩ (.slice al L2 c1)).setCell ⟨w.heap.size, 2, none⟩ (.slice a2n Lc c2n)).setCell ⟨w.heap.size, 3, none⟩ (.map (some M2)) from HW4.out]
   obtain ⟨W5, HW5⟩ : ∃ W, Hid (W = W4.alloc (.cells #[.int .i64 cl, .int .i64 sq, .int .i64 k2, .int .i64 v2] 32)) := ⟨_, Lib.hid rfl⟩
   have HB5 : Hid (Below W4.heap.size W4 W5) := Lib.hid (by rw [HW5.out]; exact z04 _ _)
   have HRX : Hid (Row W5 w3.heap.size 32 [.int .i64 cl, .int .i64 sq, .int .i64 k2, .int .i64 v2]) := Lib.hid (by rw [HW5.out, <- hsz4]; exact z02 W4 #[.int .i64 cl, .int .i64 sq, .int .i64 k2, .int .i64 v2] _)
   rw [<- HW5.out]
   have HSR : Hid (∀ W, Below W5.heap.size W5 W -> (W.cell? ⟨w.heap.size, 0, none⟩ = some (.int .i64 v2) /\ W.cell? ⟨w.heap.size, 1, none⟩ = some (.slice al L2 c1) /\ W.cell? ⟨w.heap.size, 2, none⟩ = some (.slice a2n Lc c2n) /\ W.cell? ⟨w.heap.size, 3, none⟩ = some (.map (some M2))) /\ (W.cell? ⟨w3.heap.size, 0, none⟩ = some (.int .i64 cl) /\ W.cell? ⟨w3.heap.size, 1, none⟩ = some (.int .i64 sq) /\ W.cell? ⟨w3.heap.size, 2, none⟩ = some (.int .i64 k2) /\ W.cell? ⟨w3.heap.size, 3, none⟩ = some (.int .i64 v2))) := Lib.hid (fun W h => by
    have ra := (RA4.out.below HB5.out).below h
    have rx := HRX.out.below h
    exact ⟨⟨ra.cell rfl, ra.cell rfl, ra.cell rfl, ra.cell rfl⟩, rx.cell rfl, rx.cell rfl, rx.cell rfl, rx.cell rfl⟩)
   have hq0 := HSR.out _ (Below.refl W5.heap.size W5).drew
   have HSC := Lib.hid (HT.out.sto W5.drew al c1 a2n c2n M2 (HS4.out.old HB5.out.drew))
   refine wp_region_noPanic ?_
   refine wp_region_held_drew (S := fun W => (W.cell? ⟨w.heap.size, 0, none⟩ = some (.int .i64 v2) /\ W.cell? ⟨w.heap.size, 1, none⟩ = some (.slice al L2 c1) /\ W.cell? ⟨w.heap.size, 2, none⟩ = some (.slice a2n Lc c2n) /\ W.cell? ⟨w.heap.size, 3, none⟩ = some (.map (some M2))) /\ (W.cell? ⟨w3.heap.size, 0, none⟩ = some (.int .i64 cl) /\ W.cell? ⟨w3.heap.size, 1, none⟩ = some (.int .i64 sq) /\ W.cell? ⟨w3.heap.size, 2, none⟩ = some (.int .i64 k2) /\ W.cell? ⟨w3.heap.size, 3, none⟩ = some (.int .i64 v2))) (by kernel_rfl) ?_ (fun hz0 => ?_)
   ·exact hq0
   refine wpAnyH_take (i := 0) (oi := { dst := some 85, op := .load 73 (.tmp 2), type := 73, pos := "state.go:39", after := #[], guard := none }) (v := ?_) rfl (by kernel_rfl) (by kernel_rfl) (by kernel_rfl) (fun _ _ _ h => h) (Or.inl ⟨by rfl, ?_⟩) (by assumption) ?_
   rotate_left
   ·(intro w hSw; (try dsimp only at hSw); go_simp) <;> with_reducible rfl
   simp only [Act.put, List.setIfInBounds_toArray, List.set_cons_zero, List.set_cons_succ]
   refine wpAnyH_take (i := 1) (oi := { dst := some 86, op := .load 32 (.tmp 9), type := 32, pos := "state.go:39", after := #[], guard := none }) (v := ?_) rfl (by kernel_rfl) (by kernel_rfl) (by kernel_rfl) (fun _ _ _ h => h) (Or.inl ⟨by rfl, ?_⟩) (by assumption) ?_
   rotate_left
   ·(intro w hSw; (try dsimp only at hSw); go_simp) <;> with_reducible rfl
   simp only [Act.put, List.setIfInBounds_toArray, List.set_cons_zero, List.set_cons_succ]
   refine wpAnyH_take (i := 3) (oi := { dst := some 88, op := .load 32 (.tmp 9), type := 32, pos := "state.go:39", after := #[{ on := 4, ground := .gcOnly .lateStores }], guard := none }) (v := ?_) rfl (by kernel_rfl) (by kernel_rfl) (by kernel_rfl) (fun _ _ _ h => h) (Or.inl ⟨by rfl, ?_⟩) (by assumption) ?_
   rotate_left
   ·(intro w hSw; (try dsimp only at hSw); go_simp) <;> with_reducible rfl
   simp only [Act.put, List.setIfInBounds_toArray, List.set_cons_zero, List.set_cons_succ]
   refine wpAnyH_ready (rs := [2]) (by kernel_rfl) (by simp) ?_
   refine AllReadyH.cons (o := { dst := some 87, op := .call { callee := .value (.func 83), args := #[.tmp 85, .tmp 86], argTypes := #[73, 32] }, type := 73, pos := "state.go:39", after := #[{ on := 0, ground := .data }, { on := 1, ground := .data }], guard := none }) rfl (fun K hK => ?_) AllReadyH.nil
   go_simp
   refine HSC.out.mono ?_
   rintro e w6 ⟨ae3, ce3, ac3, cc3, M3, rfl, hst6, hf6, hb6⟩
   obtain ⟨L3, HL3⟩ : ∃ L, Hid (L = (putL ⟨cl, sq, k2, v2⟩ cs).length) := ⟨_, Lib.hid rfl⟩
   have HS6 := Lib.hid hst6
   have HF6 := Lib.hid hf6
   have HB6 : Hid (Below W5.heap.size W5 w6) := Lib.hid (z00 (Below.refl W5.heap.size W5).drew hb6)
   simp only
   rw [<- HL3.out, <- HT.out.len]
   clear hst6 hf6 hb6
   go_wp2_with fail
   refine hK.out _ _ ?_ (fun hz1 => ?_)
   ·exact HSR.out _ HB6.out
   clear hK K hz0
   try simp only [Act.put, List.setIfInBounds_toArray, List.set_cons_zero, List.set_cons_succ]
   have HRR6 := Lib.hid ((RR4.out.below HB5.out).below HB6.out)
   have HRT6 := Lib.hid ((RT4.out.below HB5.out).below HB6.out)
   have HSTD := Lib.hid (z5g HRR6.out HRT6.out (by omega) v2 (.slice ae3 L2 ce3) (.slice ac3 L3 cc3) M3 ⟨cl, sq, k2, v2⟩)
   have HP0 : Hid (((putS w6 (w.heap.size + 1 + 1) v2 (.slice ae3 L2 ce3) (.slice ac3 L3 cc3) M3).cell? ⟨w.heap.size, 0, none⟩ = some (.int .i64 v2) /\ (putS w6 (w.heap.size + 1 + 1) v2 (.slice ae3 L2 ce3) (.slice ac3 L3 cc3) M3).cell? ⟨w.heap.size, 1, none⟩ = some (.slice al L2 c1) /\ (putS w6 (w.heap.size + 1 + 1) v2 (.slice ae3 L2 ce3) (.slice ac3 L3 cc3) M3).cell? ⟨w.heap.size, 2, none⟩ = some (.slice a2n Lc c2n) /\ (putS w6 (w.heap.size + 1 + 1) v2 (.slice ae3 L2 ce3) (.slice ac3 L3 cc3) M3).cell? ⟨w.heap.size, 3, none⟩ = some (.map (some M2))) /\ ((putS w6 (w.heap.size + 1 + 1) v2 (.slice ae3 L2 ce3) (.slice ac3 L3 cc3) M3).cell? ⟨w3.heap.size, 0, none⟩ = some (.int .i64 cl) /\ (putS w6 (w.heap.size + 1 + 1) v2 (.slice ae3 L2 ce3) (.slice ac3 L3 cc3) M3).cell? ⟨w3.heap.size, 1, none⟩ = some (.int .i64 sq) /\ (putS w6 (w.heap.size + 1 + 1) v2 (.slice ae3 L2 ce3) (.slice ac3 L3 cc3) M3).cell? ⟨w3.heap.size, 2, none⟩ = some (.int .i64 k2) /\ (putS w6 (w.heap.size + 1 + 1) v2 (.slice ae3 L2 ce3) (.slice ac3 L3 cc3) M3).cell? ⟨w3.heap.size, 3, none⟩ = some (.int .i64 v2))) := Lib.hid (by
    have hkeep := HSTD.out.keepN
    obtain ⟨⟨k0, k1, k2, k3⟩, l0, l1, l2, l3⟩ := HSR.out _ HB6.out
    exact ⟨⟨(hkeep ⟨w.heap.size, 0, none⟩ (by show w.heap.size ≠ w.heap.size + 1 + 1; omega) (by show w.heap.size ≠ w.heap.size + 1 + 1 + 1; omega)).1.trans k0, (hkeep ⟨w.heap.size, 1, none⟩ (by show w.heap.size ≠ w.heap.size + 1 + 1; omega) (by show w.heap.size ≠ w.heap.size + 1 + 1 + 1; omega)).1.trans k1, (hkeep ⟨w.heap.size, 2, none⟩ (by show w.heap.size ≠ w.heap.size + 1 + 1; omega) (by show w.heap.size ≠ w.heap.size + 1 + 1 + 1; omega)).1.trans k2, (hkeep ⟨w.heap.size, 3, none⟩ (by show w.heap.size ≠ w.heap.size + 1 + 1; omega) (by show w.heap.size ≠ w.heap.size + 1 + 1 + 1; omega)).1.trans k3⟩, (hkeep ⟨w3.heap.size, 0, none⟩ (by show w3.heap.size ≠ w.heap.size + 1 + 1; omega) (by show w3.heap.size ≠ w.heap.size + 1 + 1 + 1; omega)).1.trans l0, (hkeep ⟨w3.heap.size, 1, none⟩ (by show w3.heap.size ≠ w.heap.size + 1 + 1; omega) (by show w3.heap.size ≠ w.heap.size + 1 + 1 + 1; omega)).1.trans l1, (hkeep ⟨w3.heap.size, 2, none⟩ (by show w3.heap.size ≠ w.heap.size + 1 + 1; omega) (by show w3.heap.size ≠ w.heap.size + 1 + 1 + 1; omega)).1.trans l2, (hkeep ⟨w3.heap.size, 3, none⟩ (by show w3.heap.size ≠ w.heap.size + 1 + 1; omega) (by show w3.heap.size ≠ w.heap.size + 1 + 1 + 1; omega)).1.trans l3⟩)
   have HP1 : Hid (((putT (putS w6 (w.heap.size + 1 + 1) v2 (.slice ae3 L2 ce3) (.slice ac3 L3 cc3) M3) (w.heap.size + 1 + 1 + 1) cl sq k2 v2).cell? ⟨w.heap.size, 0, none⟩ = some (.int .i64 v2) /\ (putT (putS w6 (w.heap.size + 1 + 1) v2 (.slice ae3 L2 ce3) (.slice ac3 L3 cc3) M3) (w.heap.size + 1 + 1 + 1) cl sq k2 v2).cell? ⟨w.heap.size, 1, none⟩ = some (.slice al L2 c1) /\ (putT (putS w6 (w.heap.size + 1 + 1) v2 (.slice ae3 L2 ce3) (.slice ac3 L3 cc3) M3) (w.heap.size + 1 + 1 + 1) cl sq k2 v2).cell? ⟨w.heap.size, 2, none⟩ = some (.slice a2n Lc c2n) /\ (putT (putS w6 (w.heap.size + 1 + 1) v2 (.slice ae3 L2 ce3) (.slice ac3 L3 cc3) M3) (w.heap.size + 1 + 1 + 1) cl sq k2 v2).cell? ⟨w.heap.size, 3, none⟩ = some (.map (some M2))) /\ ((putT (putS w6 (w.heap.size + 1 + 1) v2 (.slice ae3 L2 ce3) (.slice ac3 L3 cc3) M3) (w.heap.size + 1 + 1 + 1) cl sq k2 v2).cell? ⟨w3.heap.size, 0, none⟩ = some (.int .i64 cl) /\ (putT (putS w6 (w.heap.size + 1 + 1) v2 (.slice ae3 L2 ce3) (.slice ac3 L3 cc3) M3) (w.heap.size + 1 + 1 + 1) cl sq k2 v2).cell? ⟨w3.heap.size, 1, none⟩ = some (.int .i64 sq) /\ (putT (putS w6 (w.heap.size + 1 + 1) v2 (.slice ae3 L2 ce3) (.slice ac3 L3 cc3) M3) (w.heap.size + 1 + 1 + 1) cl sq k2 v2).cell? ⟨w3.heap.size, 2, none⟩ = some (.int .i64 k2) /\ (putT (putS w6 (w.heap.size + 1 + 1) v2 (.slice ae3 L2 ce3) (.slice ac3 L3 cc3) M3) (w.heap.size + 1 + 1 + 1) cl sq k2 v2).cell? ⟨w3.heap.size, 3, none⟩ = some (.int .i64 v2))) := Lib.hid (by
    have hkeep := HSTD.out.keepN
    obtain ⟨⟨k0, k1, k2, k3⟩, l0, l1, l2, l3⟩ := HSR.out _ HB6.out
    exact ⟨⟨(hkeep ⟨w.heap.size, 0, none⟩ (by show w.heap.size ≠ w.heap.size + 1 + 1; omega) (by show w.heap.size ≠ w.heap.size + 1 + 1 + 1; omega)).2.trans k0, (hkeep ⟨w.heap.size, 1, none⟩ (by show w.heap.size ≠ w.heap.size + 1 + 1; omega) (by show w.heap.size ≠ w.heap.size + 1 + 1 + 1; omega)).2.trans k1, (hkeep ⟨w.heap.size, 2, none⟩ (by show w.heap.size ≠ w.heap.size + 1 + 1; omega) (by show w.heap.size ≠ w.heap.size + 1 + 1 + 1; omega)).2.trans k2, (hkeep ⟨w.heap.size, 3, none⟩ (by show w.heap.size ≠ w.heap.size + 1 + 1; omega) (by show w.heap.size ≠ w.heap.size + 1 + 1 + 1; omega)).2.trans k3⟩, (hkeep ⟨w3.heap.size, 0, none⟩ (by show w3.heap.size ≠ w.heap.size + 1 + 1; omega) (by show w3.heap.size ≠ w.heap.size + 1 + 1 + 1; omega)).2.trans l0, (hkeep ⟨w3.heap.size, 1, none⟩ (by show w3.heap.size ≠ w.heap.size + 1 + 1; omega) (by show w3.heap.size ≠ w.heap.size + 1 + 1 + 1; omega)).2.trans l1, (hkeep ⟨w3.heap.size, 2, none⟩ (by show w3.heap.size ≠ w.heap.size + 1 + 1; omega) (by show w3.heap.size ≠ w.heap.size + 1 + 1 + 1; omega)).2.trans l2, (hkeep ⟨w3.heap.size, 3, none⟩ (by show w3.heap.size ≠ w.heap.size + 1 + 1; omega) (by show w3.heap.size ≠ w.heap.size + 1 + 1 + 1; omega)).2.trans l3⟩)
   have HFIN : Hid (z41 (doF ⟨v, es, cs⟩ ⟨cl, sq, ch⟩) w (.returned (.tuple #[.agg (stC v2 (.slice ae3 L2 ce3) (.slice ac3 L3 cc3) M3), clV ⟨cl, sq, k2, v2⟩])) (putT (putS w6 (w.heap.size + 1 + 1) v2 (.slice ae3 L2 ce3) (.slice ac3 L3 cc3) M3) (w.heap.size + 1 + 1 + 1) cl sq k2 v2)) := Lib.hid (by
    have hb6 : Below w.heap.size w w6 := z00 (z00 HB4.out HB5.out) HB6.out
    have hbR := z0f w6 (w.heap.size + 1 + 1) v2 (.slice ae3 L2 ce3) (.slice ac3 L3 cc3) M3
    have hbT := z10 (putS w6 (w.heap.size + 1 + 1) v2 (.slice ae3 L2 ce3) (.slice ac3 L3 cc3) M3) (w.heap.size + 1 + 1 + 1) cl sq k2 v2
    have hb : Below w.heap.size w (putT (putS w6 (w.heap.size + 1 + 1) v2 (.slice ae3 L2 ce3) (.slice ac3 L3 cc3) M3) (w.heap.size + 1 + 1 + 1) cl sq k2 v2) := (hb6.trans (hbR.below (B := w.heap.size) (by omega))).trans (hbT.below (B := w.heap.size) (by omega))
    have s1 := HS6.out.but HRR6.out (fun _ => Value.noConfusion) (fun _ => Value.noConfusion) (fun _ => Value.noConfusion) (fun _ => Value.noConfusion) (fun _ => Value.noConfusion) (fun _ => Value.noConfusion) (fun _ => Value.noConfusion) hbR
    have f1 : SlL (putS w6 (w.heap.size + 1 + 1) v2 (.slice ae3 L2 ce3) (.slice ac3 L3 cc3) M3) (Fsh W5.drew.heap.size (putS w6 (w.heap.size + 1 + 1) v2 (.slice ae3 L2 ce3) (.slice ac3 L3 cc3) M3)) (.slice ac3 (putL ⟨cl, sq, k2, v2⟩ cs).length cc3) (putL ⟨cl, sq, k2, v2⟩ cs) := Sl.keep HF6.out (fun b hb => hbR.block b (by have h9 := hb.1; have h8 := HB5.out.size; show b ≠ w.heap.size + 1 + 1; simp only [World.drew] at h9; omega)) (fun b hb => ⟨hb.1, Nat.lt_of_lt_of_eq hb.2 hbR.size.symm⟩) (fun _ _ h => h)
    have s2 := s1.butT f1 (by have h8 := HB5.out.size; simp only [World.drew]; omega) (HRT6.out.keep (hbR.block (w.heap.size + 1 + 1 + 1) (by omega))) hbT
    rw [HDO.out, HT.out.fin]
    exact ⟨ae3, ce3, ac3, cc3, M3, by rw [HL3.out, HT.out.len], s2, hb⟩)
   have hstd := HSTD.out
   obtain ⟨r0, r1, r2, r3⟩ := hstd.c1
   obtain ⟨s0, s1, s2, s3⟩ := hstd.f1
   clear hstd
   refine wpAnyH_ready (rs := [4]) (by kernel_rfl) (by simp) ?_
   refine AllReadyH.cons (o := { dst := none, op := .store 73 (.tmp 4) (.tmp 87), type := 0, pos := "state.go:39", after := #[{ on := 2, ground := .data }, { on := 2, ground := .chain }, { on := 0, ground := .phase }, { on := 1, ground := .phase }, { on := 2, ground := .phase }, { on := 3, ground := .textOnly .lateStores }], guard := none }) rfl (fun K hK => ?_) AllReadyH.nil
   go_simp
   refine hK.out _ _ ?_ (fun hz2 => ?_)
   ·exact HP0.out
   clear hK K hz1 hq0 r0 r1 r2 r3 s0 s1 s2 s3
   try simp only [Act.put, List.setIfInBounds_toArray, List.set_cons_zero, List.set_cons_succ]
   have hstd := HSTD.out
   obtain ⟨r0, r1, r2, r3⟩ := hstd.c2
   obtain ⟨s0, s1, s2, s3⟩ := hstd.f2
   clear hstd
   refine wpAnyH_ready (rs := [5]) (by kernel_rfl) (by simp) ?_
   refine AllReadyH.cons (o := { dst := none, op := .store 32 (.tmp 5) (.tmp 88), type := 0, pos := "state.go:39", after := #[{ on := 3, ground := .data }, { on := 4, ground := .chain }, { on := 0, ground := .phase }, { on := 1, ground := .phase }, { on := 2, ground := .phase }, { on := 3, ground := .phase }, { on := 4, ground := .phase }], guard := none }) rfl (fun K hK => ?_) AllReadyH.nil
   go_simp
   refine hK.out _ _ ?_ (fun hz3 => ?_)
   ·exact HP1.out
   clear hK K hz2 r0 r1 r2 r3 s0 s1 s2 s3
   try simp only [Act.put, List.setIfInBounds_toArray, List.set_cons_zero, List.set_cons_succ]
   have hstd := HSTD.out
   obtain ⟨f0, f1, f2, f3⟩ := hstd.g1
   obtain ⟨g0, g1, g2, g3⟩ := hstd.g2
   simp only at g0 g1 g2 g3 f0 f1 f2 f3
   clear hstd hz3
   refine wpAnyH_done (by kernel_rfl) ?_ _
   refine NoPanic.normal ?_
   go_wp2
   exact bodyPost_ret (v := .tuple #[.agg (stC v2 (.slice ae3 L2 ce3) (.slice ac3 L3 cc3) M3), clV ⟨cl, sq, k2, v2⟩]) (by simp [results, Tryz.results40, go_sem, f0, f1, f2, f3, g0, g1, g2, g3]) rfl HFIN.out
end Go.Proofs.YtdkkkeoicekdgaaGreatDoor.Md
