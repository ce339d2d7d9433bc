/- Package model: a state whose catalog is changed. -/
import Derived.Test.YtdkkkeoicekdgaaGreatDoorZAMst
import Derived.Test.YtdkkkeoicekdgaaGreatDoorZABy
import Derived.Test.YtdkkkeoicekdgaaGreatDoorZAg41
import Derived.Test.YtdkkkeoicekdgaaGreatDoorZAg42

section

namespace Go.Proofs.YtdkkkeoicekdgaaGreatDoor.Md
set_option maxHeartbeats 6400000
set_option maxRecDepth 100000
open Go.Lib (hid)
open Go.RowKit Go.Proofs.YtdkkkeoicekdgaaGreatDoor Go.Proofs.YtdkkkeoicekdgaaGreatDoor.Ca
theorem fit_may {x : Ent} (h : mayB x = true) : FitE x := by
 obtain ⟨h1, h2, h3⟩ := may_tx h
 exact ⟨by omega, by omega, by omega⟩
theorem z6g {l : List Ent} (h : Rgt l) : ∀ x, x ∈ l -> FitE x := fun x hx => fit_may (h.may x hx)
theorem chg_bad {v : Int} {l : List Ent} {cs : List Chg} {k : Nat} (h : z18 l cs = .error k) : chgF v l cs = .error k := by unfold chgF; rw [h]
theorem chg_long {v : Int} {l l' : List Ent} {cs : List Chg} (h : z18 l cs = .ok l') (h2 : (z0o l').2 ≠ 0) : chgF v l cs = .error 2 := by unfold chgF; rw [h]; simp only; rw [if_pos h2]
theorem chg_full {v : Int} {l l' : List Ent} {cs : List Chg} (h : z18 l cs = .ok l') (h2 : (z0o l').2 = 0) (h3 : v = 1073741824) : chgF v l cs = .error 130 := by unfold chgF; rw [h]; simp only; rw [if_neg (by simpa using h2), if_pos h3]
theorem chg_yes {v : Int} {l l' : List Ent} {cs : List Chg} (h : z18 l cs = .ok l') (h2 : (z0o l').2 = 0) (h3 : ¬ v = 1073741824) : chgF v l cs = .ok l' := by unfold chgF; rw [h]; simp only; rw [if_neg (by simpa using h2), if_neg h3]
def z1a (m : Mdl) (ch : List Chg) (w : World) (e : Ending) (w' : World) : Prop := ∃ ae ce ac cc M, StAt w' (match chgF m.vr m.es ch with | .error _ => m | .ok l => ⟨m.vr + 1, l, m.cs⟩) ae ce ac cc M /\ Below w.heap.size w w' /\
 e = .returned (.tuple #[.agg (stC (match chgF m.vr m.es ch with | .error _ => m | .ok l => ⟨m.vr + 1, l, m.cs⟩ : Mdl).vr (.slice ae (match chgF m.vr m.es ch with | .error _ => m | .ok l => ⟨m.vr + 1, l, m.cs⟩ : Mdl).es.length ce) (.slice ac m.cs.length cc) M), .int .i64 (match chgF m.vr m.es ch with | .error k => (k : Int) | .ok _ => 0)])
theorem z1a.no {m : Mdl} {ch : List Chg} {w w' : World} {k : Nat} {ae : Option Addr} {ce : Nat} {ac : Option Addr} {cc M : Nat} (h : chgF m.vr m.es ch = .error k) (hs : StAt w' m ae ce ac cc M) (hb : Below w.heap.size w w') :
  z1a m ch w (.returned (.tuple #[.agg (stC m.vr (.slice ae m.es.length ce) (.slice ac m.cs.length cc) M), .int .i64 k])) w' := ⟨ae, ce, ac, cc, M, by rw [h]; exact hs, hb, by rw [h]⟩
theorem z1a.yes {m : Mdl} {ch : List Chg} {w w' : World} {l : List Ent} {ae : Option Addr} {ce : Nat} {ac : Option Addr} {cc M : Nat} (h : chgF m.vr m.es ch = .ok l) (hs : StAt w' ⟨m.vr + 1, l, m.cs⟩ ae ce ac cc M) (hb : Below w.heap.size w w') :
  z1a m ch w (.returned (.tuple #[.agg (stC (m.vr + 1) (.slice ae l.length ce) (.slice ac m.cs.length cc) M), .int .i64 0])) w' := ⟨ae, ce, ac, cc, M, by rw [h]; exact hs, hb, by rw [h]⟩
abbrev putS (w : World) (R : Nat) (v : Int) (ve vc : Value) (M : Nat) : World := (((w.setCell ⟨R, 0, none⟩ (.int .i64 v)).setCell ⟨R, 1, none⟩ ve).setCell ⟨R, 2, none⟩ vc).setCell ⟨R, 3, none⟩ (.map (some M))
theorem z1b {w : World} {R : Nat} {t : TypeId} {x0 x1 x2 x3 : Value} (h : Row w R t [x0, x1, x2, x3]) (v : Int) (ve vc : Value) (M : Nat) : Row (putS w R v ve vc M) R t [.int .i64 v, ve, vc, .map (some M)] := (((h.set 0 (.int .i64 v)).set 1 ve).set 2 vc).set 3 (.map (some M))
theorem z0f (w : World) (R : Nat) (v : Int) (ve vc : Value) (M : Nat) : But R w (putS w R v ve vc M) := ((((But.refl _ _).set _ _).set _ _).set _ _).set _ _
structure StLt (w : World) (B : Nat) (m : Mdl) (ae : Option Addr) (ce : Nat) (ac : Option Addr) (cc M : Nat) : Prop where
 es : SlE w (fun b => b < B) (.slice ae m.es.length ce) m.es
 cs : SlL w (fun b => b < B) (.slice ac m.cs.length cc) m.cs
 lt : M < B
 nil : ac = none -> cc = 0
 map : ∃ n D, OMm w M n D /\ GoodK m.cs m.cs.length D
theorem StAt.lt {w : World} {m : Mdl} {ae : Option Addr} {ce : Nat} {ac : Option Addr} {cc M : Nat} (h : StAt w m ae ce ac cc M) : StLt w w.heap.size m ae ce ac cc M := by
 obtain ⟨n, D, h1, h2⟩ := h.map
 exact ⟨h.es, h.cs, h1.lt, h.nil, n, D, h1, h2⟩
theorem StLt.blw {w w' : World} {B : Nat} {m : Mdl} {ae : Option Addr} {ce : Nat} {ac : Option Addr} {cc M : Nat} (h : StLt w B m ae ce ac cc M) (hb : Below B w w') : StLt w' B m ae ce ac cc M := by
 obtain ⟨n, D, h1, h2⟩ := h.map
 exact ⟨Sl.keep h.es (fun b hb2 => hb.block b hb2) (fun _ h => h) (fun _ _ h => h), Sl.keep h.cs (fun b hb2 => hb.block b hb2) (fun _ h => h) (fun _ _ h => h), h.lt, h.nil, n, D, z0r h1 (hb.block _ h.lt), h2⟩
theorem StLt.at_ {w : World} {B : Nat} {m : Mdl} {ae : Option Addr} {ce : Nat} {ac : Option Addr} {cc M : Nat} (h : StLt w B m ae ce ac cc M) (hB : B <= w.heap.size) : StAt w m ae ce ac cc M := by
 obtain ⟨n, D, h1, h2⟩ := h.map
 exact ⟨Sl.keep h.es (fun _ _ => rfl) (fun _ h => Nat.lt_of_lt_of_le h hB) (fun _ _ h => h), Sl.keep h.cs (fun _ _ => rfl) (fun _ h => Nat.lt_of_lt_of_le h hB) (fun _ _ h => h), h.nil, n, D, h1, h2⟩
theorem z22 {w : World} {S : Nat -> Prop} {v : Value} {xs : List Ent} {A : Nat} {t : TypeId} {cs : List Value} (h : SlE w S v xs) (hA : Row w A t cs) (hn : ∀ (i : Nat) s, cs[i]? ≠ some (.string s)) : SlE w (fun b => S b /\ b ≠ A) v xs := by
 obtain ⟨a, cap, hv, h1, h2, h3⟩ := h
 refine ⟨a, cap, hv, h1, h2, fun hne => ?_⟩
 obtain ⟨b, off, ha, hb, hat⟩ := h3 hne
 refine ⟨b, off, ha, ⟨hb, fun e => ?_⟩, hat⟩
 subst e
 have hx := (At.e (hat 0 (xs[0]'(List.length_pos_iff.2 hne)) (List.getElem?_eq_getElem _))).1
 have hcell : w.cell? ⟨b, off + 0 * 3, none⟩ = cs[off + 0 * 3]? := by
  have hh : w.heap[b]? = some (.cells cs.toArray t (0, 0)) := hA
  simp [World.cell?, hh]
 rw [hcell] at hx
 exact hn _ _ hx
theorem z4t {x0 x1 x2 x3 : Value} (h0 : ∀ s, x0 ≠ .string s) (h1 : ∀ s, x1 ≠ .string s) (h2 : ∀ s, x2 ≠ .string s) (h3 : ∀ s, x3 ≠ .string s) : ∀ (i : Nat) s, [x0, x1, x2, x3][i]? ≠ some (.string s)
 | 0, s => fun e => h0 s (Option.some.inj e)
 | 1, s => fun e => h1 s (Option.some.inj e)
 | 2, s => fun e => h2 s (Option.some.inj e)
 | 3, s => fun e => h3 s (Option.some.inj e)
 | _ + 4, s => fun e => by simp at e
theorem z8v (w : World) (m : Mdl) (ae : Option Addr) (ce : Nat) (ac : Option Addr) (cc M : Nat) (b : Option Addr) (capc : Nat) (ch : List Chg) (hst : StAt w m ae ce ac cc M) (hC : SlH w (Old w) (.slice b ch.length capc) ch) (hFC : ∀ c, c ∈ ch -> FitE c.e) (hR : RgtM m) (hE : EnvC w) :
  Calls Tryz.prog 82 #[.agg (stC m.vr (.slice ae m.es.length ce) (.slice ac m.cs.length cc) M), .slice b ch.length capc] w (z1a m ch w) := by
 have HRG := hid (z0p hR.es)
 obtain ⟨v, es, cs⟩ := m
 simp only at hst HRG ⊢
 have hlo := hR.lo
 have hhi := hR.hi
 simp only at hlo hhi
 have HLT := hid hst.lt
 have HAP := hid (fun W (h : Below w.heap.size w W) => zdk W ae ce es b capc ch (hst.es.old h) (hC.old h) (z6g HRG.out) hFC (hE.below h))
 have HBY := hid (fun W (h : Below w.heap.size w W) a c l hl hr => z82 W a c l hl (z6g hr) (hE.below h))
 obtain ⟨r, HRR⟩ : ∃ r, Hid (r = z18 es ch) := ⟨_, hid rfl⟩
 rw [<- HRR.out] at HAP
 have HNO : Hid (∀ k w', chgF v es ch = .error k -> StAt w' ⟨v, es, cs⟩ ae ce ac cc M -> Below w.heap.size w w' -> z1a ⟨v, es, cs⟩ ch w (.returned (.tuple #[.agg (stC v (.slice ae es.length ce) (.slice ac cs.length cc) M), .int .i64 k])) w') := hid (fun k w' h1 h2 h3 => z1a.no (m := ⟨v, es, cs⟩) h1 h2 h3)
 have HYES : Hid (∀ l a c w', chgF v es ch = .ok l -> StAt w' ⟨v + 1, l, cs⟩ a c ac cc M -> Below w.heap.size w w' -> z1a ⟨v, es, cs⟩ ch w (.returned (.tuple #[.agg (stC (v + 1) (.slice a l.length c) (.slice ac cs.length cc) M), .int .i64 0])) w') := hid (fun l a c w' h1 h2 h3 => z1a.yes (m := ⟨v, es, cs⟩) h1 h2 h3)
 obtain ⟨Le, HLe⟩ : ∃ L, Hid (L = es.length) := ⟨_, hid rfl⟩
 obtain ⟨Lc, HLc⟩ : ∃ L, Hid (L = cs.length) := ⟨_, hid rfl⟩
 obtain ⟨Lh, HLh⟩ : ∃ L, Hid (L = ch.length) := ⟨_, hid rfl⟩
 rw [<- HLe.out] at HAP HNO ⊢
 rw [<- HLc.out] at HNO HYES ⊢
 rw [<- HLh.out] at HAP ⊢
 clear hst hC hFC hR hE
 obtain ⟨W1, HW1⟩ : ∃ W, Hid (W = (w.alloc (.cells (stC v (.slice ae Le ce) (.slice ac Lc cc) M) 73)).alloc (.cells #[.int .i64 0, .slice none 0 0, .slice none 0 0, .map none] 73)) := ⟨_, hid rfl⟩
 have HSZ : Hid (W1.heap.size = w.heap.size + 2) := hid (by rw [HW1.out]; simp)
 have HB1 : Hid (Below w.heap.size w W1) := hid (by rw [HW1.out]; exact z2l w _ _)
 have HRA : Hid (Row W1 w.heap.size 73 [.int .i64 v, .slice ae Le ce, .slice ac Lc cc, .map (some M)]) := hid (by rw [HW1.out]; exact (z02 w (stC v (.slice ae Le ce) (.slice ac Lc cc) M) _).alloc _)
 have HRB : Hid (Row W1 (w.heap.size + 1) 73 [.int .i64 0, .slice none 0 0, .slice none 0 0, .map none]) := hid (by
  rw [HW1.out]
  have h := z02 (w.alloc (.cells (stC v (.slice ae Le ce) (.slice ac Lc cc) M) 73)) #[.int .i64 0, .slice none 0 0, .slice none 0 0, .map none] 73
  rwa [World.size_alloc] at h)
 have HA1 := hid (HAP.out W1 HB1.out)
 have hc1 : ((w.alloc (.cells (stC v (.slice ae Le ce) (.slice ac Lc cc) M) 73)).alloc (.cells #[.int .i64 0, .slice none 0 0, .slice none 0 0, .map none] 73)).cell? ⟨w.heap.size, 1, none⟩ = some (.slice ae Le ce) := by rw [<- HW1.out]; exact HRA.out.cell rfl
 have HEND : Hid (∀ W, Below W1.heap.size W1 W -> (W.cell? ⟨w.heap.size, 0, none⟩ = some (.int .i64 v) /\ W.cell? ⟨w.heap.size, 1, none⟩ = some (.slice ae Le ce) /\ W.cell? ⟨w.heap.size, 2, none⟩ = some (.slice ac Lc cc) /\ W.cell? ⟨w.heap.size, 3, none⟩ = some (.map (some M))) /\
   (W.frozen? ⟨w.heap.size + 1, 0, none⟩ = false /\ W.frozen? ⟨w.heap.size + 1, 1, none⟩ = false /\ W.frozen? ⟨w.heap.size + 1, 2, none⟩ = false /\ W.frozen? ⟨w.heap.size + 1, 3, none⟩ = false) /\
   (W.cell? ⟨w.heap.size + 1, 0, none⟩ = some (.int .i64 0) /\ W.cell? ⟨w.heap.size + 1, 1, none⟩ = some (.slice none 0 0) /\ W.cell? ⟨w.heap.size + 1, 2, none⟩ = some (.slice none 0 0) /\ W.cell? ⟨w.heap.size + 1, 3, none⟩ = some (.map none)) /\
   ((putS W (w.heap.size + 1) v (.slice ae Le ce) (.slice ac Lc cc) M).cell? ⟨w.heap.size + 1, 0, none⟩ = some (.int .i64 v) /\ (putS W (w.heap.size + 1) v (.slice ae Le ce) (.slice ac Lc cc) M).cell? ⟨w.heap.size + 1, 1, none⟩ = some (.slice ae Le ce) /\ (putS W (w.heap.size + 1) v (.slice ae Le ce) (.slice ac Lc cc) M).cell? ⟨w.heap.size + 1, 2, none⟩ = some (.slice ac Lc cc) /\ (putS W (w.heap.size + 1) v (.slice ae Le ce) (.slice ac Lc cc) M).cell? ⟨w.heap.size + 1, 3, none⟩ = some (.map (some M))) /\
   ∀ k, chgF v es ch = .error k -> z1a ⟨v, es, cs⟩ ch w (.returned (.tuple #[.agg (stC v (.slice ae Le ce) (.slice ac Lc cc) M), .int .i64 k])) (putS W (w.heap.size + 1) v (.slice ae Le ce) (.slice ac Lc cc) M)) := hid (fun W h => by
  have ra := HRA.out.below h
  have rb := HRB.out.below h
  have rp := z1b rb v (.slice ae Le ce) (.slice ac Lc cc) M
  have hbl : Below w.heap.size w (putS W (w.heap.size + 1) v (.slice ae Le ce) (.slice ac Lc cc) M) := (z00 HB1.out h).trans ((z0f W _ _ _ _ _).below (B := w.heap.size) (by omega))
  exact ⟨⟨ra.cell rfl, ra.cell rfl, ra.cell rfl, ra.cell rfl⟩, ⟨rb.thaw _, rb.thaw _, rb.thaw _, rb.thaw _⟩, ⟨rb.cell rfl, rb.cell rfl, rb.cell rfl, rb.cell rfl⟩, ⟨rp.cell rfl, rp.cell rfl, rp.cell rfl, rp.cell rfl⟩, fun k hk => HNO.out k _ hk ((HLT.out.blw hbl).at_ hbl.size) hbl⟩)
 clear HNO HAP
 go_enter Tryz.func82, Tryz.ntmps82
 cases r with
 | error k =>
  have HCK := hid (chg_bad (v := v) HRR.out.symm)
  have hkb := ne0 (k := k) (by have := z5w HRG.out HRR.out.symm; omega)
  go_wp2_with fail
  rw [<- HW1.out]
  refine HA1.out.mono ?_
  rintro e w3 ⟨hb3, rfl⟩
  obtain ⟨⟨a0, a1, a2, a3⟩, ⟨t0, t1, t2, t3⟩, ⟨e0, e1, e2, e3⟩, ⟨f0, f1, f2, f3⟩, hfin⟩ := HEND.out w3 hb3
  have HFIN := hid (hfin k HCK.out)
  clear hfin hb3 HA1 hc1 HEND
  go_wp2
  exact bodyPost_ret (v := .tuple #[.agg (stC v (.slice ae Le ce) (.slice ac Lc cc) M), .int .i64 k]) (by simp [results, Tryz.results82, go_sem, f0, f1, f2, f3]) rfl HFIN.out
 | ok l =>
  have HRL := hid (zaz HRG.out HRR.out.symm)
  go_wp2_with fail
  rw [<- HW1.out]
  refine HA1.out.mono ?_
  rintro e w3 ⟨hb3, al, cl, rfl, hs3⟩
  have HB3 := hid hb3
  have HS3 := hid hs3
  have HBL := hid (HBY.out w3 (z00 HB1.out hb3) al cl l hs3 HRL.out)
  obtain ⟨Ll, HLl⟩ : ∃ L, Hid (L = l.length) := ⟨_, hid rfl⟩
  obtain ⟨q, HQ⟩ : ∃ q, Hid (q = z0o l) := ⟨_, hid rfl⟩
  rw [<- HLl.out, <- HQ.out] at HBL
  rw [<- HLl.out]
  obtain ⟨qs, qe⟩ := q
  simp only at HBL
  clear hb3 hs3 HA1 hc1 HBY
  by_cases hq : qe = 0
  ·subst hq
   have HQ2 : Hid ((z0o l).2 = 0) := hid (by rw [<- HQ.out])
   by_cases hv : v = 1073741824
   ·have HCK := hid (chg_full (v := v) HRR.out.symm HQ2.out hv)
    have hvb : (v == 1073741824) = true := by rw [beq_iff_eq]; exact hv
    clear hv hlo hhi
    go_wp2_with fail
    refine HBL.out.mono ?_
    rintro e w4 ⟨rfl, hb4⟩
    obtain ⟨⟨a0, a1, a2, a3⟩, ⟨t0, t1, t2, t3⟩, ⟨e0, e1, e2, e3⟩, ⟨f0, f1, f2, f3⟩, hfin⟩ := HEND.out w4 (z00 HB3.out hb4)
    have HFIN := hid (hfin 130 HCK.out)
    clear hfin hb4 HBL HEND
    go_wp2
    exact bodyPost_ret (v := .tuple #[.agg (stC v (.slice ae Le ce) (.slice ac Lc cc) M), .int .i64 130]) (by simp [results, Tryz.results82, go_sem, f0, f1, f2, f3]) rfl HFIN.out
   ·have HCK := hid (chg_yes (v := v) HRR.out.symm HQ2.out hv)
    have hvb : (v == 1073741824) = false := by rw [beq_eq_false_iff_ne]; exact hv
    clear hv
    go_wp2_with fail
    refine HBL.out.mono ?_
    rintro e w4 ⟨rfl, hb4⟩
    obtain ⟨⟨a0, a1, a2, a3⟩, ⟨t0, t1, t2, t3⟩, ⟨e0, e1, e2, e3⟩, -, -⟩ := HEND.out w4 (z00 HB3.out hb4)
    have RA := HRA.out.below (z00 HB3.out hb4)
    have RA2 := (RA.set 1 (.slice al Ll cl)).set 0 (.int .i64 (v + 1))
    have u0 := RA.thaw 0
    have u1 := RA.thaw 1
    have HWR : Hid (∃ U, U = (w4.setCell ⟨w.heap.size, 1, none⟩ (.slice al Ll cl)).setCell ⟨w.heap.size, 0, none⟩ (.int .i64 (v + 1))) := hid ⟨_, rfl⟩
    have g0 : (w4.setCell ⟨w.heap.size, 1, none⟩ (.slice al Ll cl)).cell? ⟨w.heap.size, 0, none⟩ = some (.int .i64 v) := (RA.set 1 (.slice al Ll cl)).cell rfl
    have v0 : (w4.setCell ⟨w.heap.size, 1, none⟩ (.slice al Ll cl)).frozen? ⟨w.heap.size, 0, none⟩ = false := (RA.set 1 (.slice al Ll cl)).thaw 0
    have x0 := RA2.cell (i := 0) rfl
    have x1 := RA2.cell (i := 1) rfl
    have x2 := RA2.cell (i := 2) rfl
    have x3 := RA2.cell (i := 3) rfl
    have hbA : But w.heap.size w4 ((w4.setCell ⟨w.heap.size, 1, none⟩ (.slice al Ll cl)).setCell ⟨w.heap.size, 0, none⟩ (.int .i64 (v + 1))) := ((But.refl _ _).set _ _).set _ _
    have RB := HRB.out.below (z00 HB3.out hb4)
    have RB2 := RB.keep (hbA.block (w.heap.size + 1) (by omega))
    have y0 := RB2.thaw 0
    have y1 := RB2.thaw 1
    have y2 := RB2.thaw 2
    have y3 := RB2.thaw 3
    have z0 := RB2.cell (i := 0) rfl
    have z1 := RB2.cell (i := 1) rfl
    have z2 := RB2.cell (i := 2) rfl
    have z3 := RB2.cell (i := 3) rfl
    have RP := z1b RB2 (v + 1) (.slice al Ll cl) (.slice ac Lc cc) M
    have f0 := RP.cell (i := 0) rfl
    have f1 := RP.cell (i := 1) rfl
    have f2 := RP.cell (i := 2) rfl
    have f3 := RP.cell (i := 3) rfl
    have HFIN : Hid (z1a ⟨v, es, cs⟩ ch w (.returned (.tuple #[.agg (stC (v + 1) (.slice al Ll cl) (.slice ac Lc cc) M), .int .i64 0])) (putS ((w4.setCell ⟨w.heap.size, 1, none⟩ (.slice al Ll cl)).setCell ⟨w.heap.size, 0, none⟩ (.int .i64 (v + 1))) (w.heap.size + 1) (v + 1) (.slice al Ll cl) (.slice ac Lc cc) M)) := hid (by
     have h := HYES.out l al cl (putS ((w4.setCell ⟨w.heap.size, 1, none⟩ (.slice al Ll cl)).setCell ⟨w.heap.size, 0, none⟩ (.int .i64 (v + 1))) (w.heap.size + 1) (v + 1) (.slice al Ll cl) (.slice ac Lc cc) M) HCK.out
     rw [<- HLl.out] at h
     have hb34 := z00 HB3.out hb4
     have hbl : Below w.heap.size w (putS ((w4.setCell ⟨w.heap.size, 1, none⟩ (.slice al Ll cl)).setCell ⟨w.heap.size, 0, none⟩ (.int .i64 (v + 1))) (w.heap.size + 1) (v + 1) (.slice al Ll cl) (.slice ac Lc cc) M) := ((z00 HB1.out hb34).trans (hbA.below (B := w.heap.size) (by omega))).trans ((z0f _ _ _ _ _ _).below (B := w.heap.size) (by omega))
     have hst := (HLT.out.blw hbl).at_ hbl.size
     have hle := z22 (z22 (HS3.out.old hb4) RA (z4t (fun _ => Value.noConfusion) (fun _ => Value.noConfusion) (fun _ => Value.noConfusion) (fun _ => Value.noConfusion))) RB (z4t (fun _ => Value.noConfusion) (fun _ => Value.noConfusion) (fun _ => Value.noConfusion) (fun _ => Value.noConfusion))
     have hle2 : SlE (putS ((w4.setCell ⟨w.heap.size, 1, none⟩ (.slice al Ll cl)).setCell ⟨w.heap.size, 0, none⟩ (.int .i64 (v + 1))) (w.heap.size + 1) (v + 1) (.slice al Ll cl) (.slice ac Lc cc) M) (Old (putS ((w4.setCell ⟨w.heap.size, 1, none⟩ (.slice al Ll cl)).setCell ⟨w.heap.size, 0, none⟩ (.int .i64 (v + 1))) (w.heap.size + 1) (v + 1) (.slice al Ll cl) (.slice ac Lc cc) M)) (.slice al l.length cl) l :=
      Sl.keep hle (fun b hb => ((z0f _ _ _ _ _ _).block b hb.2).trans (hbA.block b hb.1.2)) (fun b hb => Nat.lt_of_lt_of_eq hb.1.1 ((z0f _ _ _ _ _ _).size.trans hbA.size).symm) (fun _ _ h => h)
     exact h ⟨hle2, hst.cs, hst.nil, hst.map⟩ hbl)
    clear hbA RB RB2 RP RA RA2 HWR hb4 HBL HEND
    go_wp2
    exact bodyPost_ret (v := .tuple #[.agg (stC (v + 1) (.slice al Ll cl) (.slice ac Lc cc) M), .int .i64 0]) (by simp [results, Tryz.results82, go_sem, f0, f1, f2, f3]) rfl HFIN.out
  ·have HCK := hid (chg_long (v := v) HRR.out.symm (by rw [<- HQ.out]; exact hq))
   have HQE : Hid (qe = 2) := hid (by
    rcases zdh l HRL.out with h | h
    ·rw [<- HQ.out] at h; injection h with h1 h2; exact absurd h2 hq
    ·rw [<- HQ.out] at h; injection h with h1 h2)
   rw [HQE.out] at HBL
   clear hq
   go_wp2_with fail
   refine HBL.out.mono ?_
   rintro e w4 ⟨rfl, hb4⟩
   obtain ⟨⟨a0, a1, a2, a3⟩, ⟨t0, t1, t2, t3⟩, ⟨e0, e1, e2, e3⟩, ⟨f0, f1, f2, f3⟩, hfin⟩ := HEND.out w4 (z00 HB3.out hb4)
   have HFIN := hid (hfin 2 HCK.out)
   clear hfin hb4 HBL HEND
   go_wp2
   exact bodyPost_ret (v := .tuple #[.agg (stC v (.slice ae Le ce) (.slice ac Lc cc) M), .int .i64 2]) (by simp [results, Tryz.results82, go_sem, f0, f1, f2, f3]) rfl HFIN.out
end Go.Proofs.YtdkkkeoicekdgaaGreatDoor.Md

end

section

namespace Go.Proofs.YtdkkkeoicekdgaaGreatDoor.Md
set_option maxHeartbeats 12800000
set_option maxRecDepth 100000
open Go.RowKit Go.Maps Go.WideShapes Go.WideMaps Go.Proofs.YtdkkkeoicekdgaaGreatDoor Go.Proofs.YtdkkkeoicekdgaaGreatDoor.Ca
theorem z96 {c : Cli} : ∀ {l : List Cli} {j : Nat} {x : Cli}, SrtC l -> l[j]? = some x -> x.id = c.id -> putL c l = l.set j c
 | [], j, x, _, h, _ => by simp at h
 | y :: r, 0, x, _, h, he => by
  obtain rfl := Option.some.inj h
  rw [putL, if_neg (by omega), if_pos he]; rfl
 | y :: r, j + 1, x, hs, h, he => by
  have h2 : r[j]? = some x := by simpa using h
  unfold SrtC at hs
  rw [List.pairwise_cons] at hs
  have := hs.1 x (List.mem_of_getElem? h2)
  rw [putL, if_pos (by omega), z96 hs.2 h2 he]; rfl
theorem z3d {c : Cli} : ∀ {l : List Cli} {p : Nat}, p <= l.length -> (∀ (j : Nat) x, j < p -> l[j]? = some x -> x.id < c.id) -> (∀ x, l[p]? = some x -> c.id < x.id) -> putL c l = l.take p ++ c :: l.drop p
 | [], p, hp, _, _ => by
  obtain rfl : p = 0 := by simpa using hp
  rfl
 | y :: r, 0, _, _, h => by
  have := h y rfl
  rw [putL, if_neg (by omega), if_neg (by omega)]; rfl
 | y :: r, p + 1, hp, h1, h2 => by
  have h0 := h1 0 y (by omega) rfl
  rw [putL, if_pos h0, z3d (p := p) (by simpa using hp) (fun j x hj hx => h1 (j + 1) x (by omega) (by simpa using hx)) (fun x hx => h2 x (by simpa using hx))]; rfl
theorem z3u {w : World} {base g cap : Nat} {n : Nat} {xs : List Cli} (h : OwnL w base (.slice (some ⟨g, 0, none⟩) n cap) xs) : ∃ cur, w.heap[g]? = some (.cells cur 32 (0, 0)) /\ cur.size = cap * 4 /\ cur.toList.take (xs.length * 4) = flatL xs /\ base <= g /\ n = xs.length /\ xs.length <= cap /\ cap <= maxLen := by
 rcases h.2 with ⟨h0, -⟩ | ⟨g', cap', cur, hv, hb, hh, hc, hm, hs, ht⟩
 ·cases h0
 ·injection hv with hv1 hv2 hv3
  obtain rfl : g = g' := by injection hv1 with h; injection h
  subst hv3
  exact ⟨cur, hh, hs, ht, hb, hv2, hc, hm⟩
theorem z67 {w : World} {base g cap : Nat} {xs : List Cli} {cur : Array Value} (hh : w.heap[g]? = some (.cells cur 32 (0, 0))) (hs : cur.size = cap * 4) (ht : cur.toList.take (xs.length * 4) = flatL xs) (hb : base <= g) (hc : xs.length <= cap) (hm : cap <= maxLen) :
  OwnL w base (.slice (some ⟨g, 0, none⟩) xs.length cap) xs := ⟨z1t xs, .inr ⟨g, cap, cur, rfl, hb, hh, hc, hm, hs, ht⟩⟩
theorem z5r : ∀ (xs : List Cli) (k : Nat), flatL (xs.take k) = (flatL xs).take (k * 4)
 | [], k => by simp [flatL]
 | x :: r, 0 => rfl
 | x :: r, k + 1 => by
  rw [show (k + 1) * 4 = k * 4 + 1 + 1 + 1 + 1 by omega]
  simp only [List.take_succ_cons, flatL, z5r r k]
theorem z5s : ∀ (xs : List Cli) (k : Nat), flatL (xs.drop k) = (flatL xs).drop (k * 4)
 | [], k => by simp [flatL]
 | x :: r, 0 => rfl
 | x :: r, k + 1 => by
  rw [show (k + 1) * 4 = k * 4 + 1 + 1 + 1 + 1 by omega]
  simp only [List.drop_succ_cons, flatL, z5s r k]
theorem own_setL {w : World} {B g cap p : Nat} {xs : List Cli} {x : Cli} (h : OwnL w B (.slice (some ⟨g, 0, none⟩) xs.length cap) xs) (hp : p < xs.length) :
  OwnL (w.setCells g (p * 4) (flatL [x])) B (.slice (some ⟨g, 0, none⟩) xs.length cap) (xs.set p x) := by
 obtain ⟨cur, hh, hs, ht, hb, -, hc, hm⟩ := z3u h
 have hcl : cur.toList.length = cap * 4 := by simpa using hs
 have hh2 := z0h g (flatL [x]) (p * 4) w cur 32 (0, 0) hh
 have hlen : (xs.set p x).length = xs.length := List.length_set
 have hfx : (flatL [x]).length = 4 := rfl
 have hse : xs.set p x = xs.take p ++ x :: xs.drop (p + 1) := by rw [List.set_eq_take_append_cons_drop, if_pos hp]
 have key : OwnL (w.setCells g (p * 4) (flatL [x])) B (.slice (some ⟨g, 0, none⟩) (xs.set p x).length cap) (xs.set p x) := by
  refine z67 hh2 (by rw [z0j]; exact hs) ?_ hb (by omega) hm
  rw [z15 _ _ _ (by rw [hfx]; omega), hlen, hse, z1u, show x :: xs.drop (p + 1) = [x] ++ xs.drop (p + 1) from rfl, z1u, z5r, z5s, <- ht, hfx]
  rw [List.take_take, Nat.min_eq_left (by omega), List.drop_take, List.append_assoc, List.take_append, List.take_append, List.length_take, Nat.min_eq_left (by omega), hfx]
  rw [List.take_take, Nat.min_eq_right (by omega), List.take_of_length_le (l := flatL [x]) (by rw [hfx]; omega), show (p + 1) * 4 = p * 4 + 4 by omega, show xs.length * 4 - p * 4 - 4 = xs.length * 4 - (p * 4 + 4) by omega]
 rw [hlen] at key
 exact key
theorem zcd {P : Program} {ops : Array Oper} {rest : List Oper} {op : Oper} {a : Act} {w : World} {Q : Exit -> Act -> World -> Prop} (h : Hid (wpList P ops Q (op :: rest) a w)) : wpList P ops Q (op :: rest) a w := h.out
theorem z3s {P : Program} {ops : Array Oper} {rest : List Oper} {op : Oper} {a : Act} {w : World} {Q : Exit -> Act -> World -> Prop} {ty : TypeId} {x y : Operand} (_ : op.op = .store ty x y) (h : Hid (wpList P ops Q (op :: rest) a w)) : wpList P ops Q (op :: rest) a w := h.out
theorem z9o {l : List Cli} {D : DataW Unit} {id : Int} (h : GoodK l l.length D) (hh : Maps.has D (kI id) = true) : ∃ (j : Nat) (x : Cli), l[j]? = some x /\ x.id = id /\ D.atKey (kI id) (.lit (kI 0)) = .lit (kI j) := by
 obtain ⟨j, x, h1, h2, h3⟩ := (h.has id).1 hh
 refine ⟨j, x, h2, h3, ?_⟩
 rw [<- h3]; exact h.at_ j x h1 h2
theorem good_no {l : List Cli} {D : DataW Unit} {id : Int} (h : GoodK l l.length D) (hh : Maps.has D (kI id) = false) : ∀ x, x ∈ l -> x.id ≠ id := fun x hx he => by
 obtain ⟨j, hj⟩ := List.mem_iff_getElem?.1 hx
 have := (h.has id).2 ⟨j, x, (List.getElem?_eq_some_iff.1 hj).1, hj, he⟩
 rw [hh] at this; cases this
theorem z60 (w : World) (m : Mdl) (ae : Option Addr) (ce : Nat) (ac : Option Addr) (cc M : Nat) (c : Cli) (hst : StAt w m ae ce ac cc M) (hsr : SrtC m.cs) (hl : m.cs.length <= 16) (hle : m.es.length <= 1000) (hid : ∀ x, x ∈ m.cs -> 1 <= x.id /\ x.id <= 1073741824) (hci : 1 <= c.id /\ c.id <= 1073741824) (hkn : ∃ x, x ∈ m.cs /\ x.id = c.id) :
  Calls Tryz.prog 83 #[.agg (stC m.vr (.slice ae m.es.length ce) (.slice ac m.cs.length cc) M), clV c] w (z1n ⟨m.vr, m.es, putL c m.cs⟩ w) := by
 obtain ⟨v, es, cs⟩ := m
 obtain ⟨ci, cq, ca, cv⟩ := c
 simp only at hst hsr hl hle hid hci hkn ⊢
 have HLT := Lib.hid hst.lt
 obtain ⟨n0, D, hom, hgd⟩ := hst.map
 have HOM := Lib.hid hom
 have HGD := Lib.hid hgd
 have HSR := Lib.hid hsr
 have HID := Lib.hid hid
 obtain ⟨Le, HLe⟩ : ∃ L, Hid (L = es.length) := ⟨_, Lib.hid rfl⟩
 obtain ⟨Lc, HLc⟩ : ∃ L, Hid (L = cs.length) := ⟨_, Lib.hid rfl⟩
 have hLc : Lc <= 16 := by have := HLc.out; omega
 have hLe : Le <= 1000 := by have := HLe.out; omega
 have HKY : Hid (keyOf Tryz.prog 3 (.int .i64 ci) = some (kI ci)) := Lib.hid (keyOf_int_mk Tryz.underlying3 (wfI (by omega) (by omega)))
 have hcap := hst.cs.len
 simp only at hcap
 rw [<- HLe.out, <- HLc.out]
 have hcc1 : Lc <= cc := by have := HLc.out; omega
 have hcc2 : cc <= 9223372036854775807 := hcap.2.2
 obtain ⟨W1, HW1⟩ : ∃ W, Hid (W = ((w.alloc (.cells (stC v (.slice ae Le ce) (.slice ac Lc cc) M) 73)).alloc (.cells #[.int .i64 ci, .int .i64 cq, .int .i64 ca, .int .i64 cv] 32)).alloc (.cells #[.int .i64 0, .slice none 0 0, .slice none 0 0, .map none] 73)) := ⟨_, Lib.hid rfl⟩
 have HSZ : Hid (W1.heap.size = w.heap.size + 3) := Lib.hid (by rw [HW1.out]; simp)
 have HB1 : Hid (Below w.heap.size w W1) := Lib.hid (by rw [HW1.out]; exact z48 w _ _ _)
 have HRA : Hid (Row W1 w.heap.size 73 [.int .i64 v, .slice ae Le ce, .slice ac Lc cc, .map (some M)]) := Lib.hid (by rw [HW1.out]; exact ((z02 w (stC v (.slice ae Le ce) (.slice ac Lc cc) M) _).alloc _).alloc _)
 have HRC : Hid (Row W1 (w.heap.size + 1) 32 [.int .i64 ci, .int .i64 cq, .int .i64 ca, .int .i64 cv]) := Lib.hid (by
  rw [HW1.out]
  have h := (z02 (w.alloc (.cells (stC v (.slice ae Le ce) (.slice ac Lc cc) M) 73)) #[.int .i64 ci, .int .i64 cq, .int .i64 ca, .int .i64 cv] 32).alloc (.cells #[.int .i64 0, .slice none 0 0, .slice none 0 0, .map none] 73)
  rwa [World.size_alloc] at h)
 have HRB : Hid (Row W1 (w.heap.size + 1 + 1) 73 [.int .i64 0, .slice none 0 0, .slice none 0 0, .map none]) := Lib.hid (by
  rw [HW1.out]
  have h := z02 ((w.alloc (.cells (stC v (.slice ae Le ce) (.slice ac Lc cc) M) 73)).alloc (.cells #[.int .i64 ci, .int .i64 cq, .int .i64 ca, .int .i64 cv] 32)) #[.int .i64 0, .slice none 0 0, .slice none 0 0, .map none] 73
  simpa only [World.size_alloc] using h)
 have HO1 : Hid (OMm W1 M n0 D) := Lib.hid (z0r HOM.out (HB1.out.block _ HLT.out.lt))
 have a2 : (((w.alloc (.cells (stC v (.slice ae Le ce) (.slice ac Lc cc) M) 73)).alloc (.cells #[.int .i64 ci, .int .i64 cq, .int .i64 ca, .int .i64 cv] 32)).alloc (.cells #[.int .i64 0, .slice none 0 0, .slice none 0 0, .map none] 73)).cell? ⟨w.heap.size, 3, none⟩ = some (.map (some M)) := by rw [<- HW1.out]; exact HRA.out.cell rfl
 have b0 : (((w.alloc (.cells (stC v (.slice ae Le ce) (.slice ac Lc cc) M) 73)).alloc (.cells #[.int .i64 ci, .int .i64 cq, .int .i64 ca, .int .i64 cv] 32)).alloc (.cells #[.int .i64 0, .slice none 0 0, .slice none 0 0, .map none] 73)).cell? ⟨w.heap.size + 1, 0, none⟩ = some (.int .i64 ci) := by rw [<- HW1.out]; exact HRC.out.cell rfl
 have HO0 : Hid (OMm (((w.alloc (.cells (stC v (.slice ae Le ce) (.slice ac Lc cc) M) 73)).alloc (.cells #[.int .i64 ci, .int .i64 cq, .int .i64 ca, .int .i64 cv] 32)).alloc (.cells #[.int .i64 0, .slice none 0 0, .slice none 0 0, .map none] 73)) M n0 D) := Lib.hid (by rw [<- HW1.out]; exact HO1.out)
 have HHAS : Hid (Maps.has D (kI ci) = true) := Lib.hid (by
  obtain ⟨x, hx, he⟩ := hkn
  obtain ⟨j, hj⟩ := List.mem_iff_getElem?.1 hx
  exact (hgd.has ci).2 ⟨j, x, (List.getElem?_eq_some_iff.1 hj).1, hj, he⟩)
 obtain ⟨j, x, hx, hxi, hat0⟩ := z9o hgd HHAS.out
 have HAT := Lib.hid hat0
 have hjl : j < Lc := by
  have h9 := (List.getElem?_eq_some_iff.1 hx).1
  simp only at h9
  have := HLc.out; omega
 have HPUT : Hid (putL ⟨ci, cq, ca, cv⟩ cs = cs.set j ⟨ci, cq, ca, cv⟩) := Lib.hid (z96 hsr hx hxi)
 have HGS : Hid (GoodK (cs.set j ⟨ci, cq, ca, cv⟩) (cs.set j ⟨ci, cq, ca, cv⟩).length D) := Lib.hid (by
  have hjl2 := (List.getElem?_eq_some_iff.1 hx).1
  have hget : ∀ (k : Nat) y, (cs.set j ⟨ci, cq, ca, cv⟩)[k]? = some y -> ∃ z, cs[k]? = some z /\ z.id = y.id := fun k y hk => by
   by_cases hkj : k = j
   ·subst hkj
    rw [List.getElem?_set_self hjl2] at hk
    obtain rfl := Option.some.inj hk
    exact ⟨x, hx, hxi⟩
   ·rw [List.getElem?_set_ne (Ne.symm hkj)] at hk
    exact ⟨y, hk, rfl⟩
  refine ⟨fun id => ?_, fun k y hk hy => ?_⟩
  ·rw [hgd.has id, List.length_set]
   constructor
   ·rintro ⟨k, y, h1, h2, h3⟩
    by_cases hkj : k = j
    ·subst hkj
     rw [hx] at h2; obtain rfl := Option.some.inj h2
     exact ⟨k, ⟨ci, cq, ca, cv⟩, h1, by rw [List.getElem?_set_self hjl2], by rw [<- h3, hxi]⟩
    ·exact ⟨k, y, h1, by rw [List.getElem?_set_ne (Ne.symm hkj)]; exact h2, h3⟩
   ·rintro ⟨k, y, h1, h2, h3⟩
    obtain ⟨z, hz, hzi⟩ := hget k y h2
    exact ⟨k, z, h1, hz, hzi.trans h3⟩
  ·obtain ⟨z, hz, hzi⟩ := hget k y hy
   rw [<- hzi]
   rw [List.length_set] at hk
   exact hgd.at_ k z hk hz)
 have HK2 := Lib.hid (fun W (h : Below w.heap.size w W) => z5v W ac cc cs (hst.cs.old h) (by have := HLc.out; omega))
 rw [<- HLc.out] at HK2
 clear hst hsr hl hle hid hom hgd hcap hkn hx hxi hat0
 go_enter Tryz.func83, Tryz.ntmps83
 go_wp2_with (at_lookup; refine wpList_lookup_own_ok_int _ rfl _ _ 71 rfl 3 3 .i64 lawI Tryz.underlying71 Tryz.underlying3 (zeroI _) M _ _ rfl HO0.out _ _ rfl HKY.out ?_; intro cw hat hwc; rw [HHAS.out]; (have hcw : cw = (j : Int) := (by rw [HAT.out] at hat; injection hat with h1; injection h1 with h2 h3; exact h3.symm)); subst hcw; clear hat hwc)
 rw [<- HW1.out]
 clear a2 b0 HO0
 have a3 := HRA.out.cell (i := 2) rfl
 have HC2 := Lib.hid (HK2.out W1 HB1.out)
 go_wp2_with fail
 refine HC2.out.mono ?_
 rintro e w3 ⟨v3, rfl, ho3, hb3⟩
 obtain ⟨a8, c8, hv8, -, -, hg8⟩ := z0g ho3
 obtain ⟨g, rfl⟩ := hg8 (by have := HLc.out; omega)
 rw [<- HLc.out] at hv8
 subst hv8
 have HB3 := Lib.hid hb3
 have HO3 := Lib.hid ho3
 have HRA3 := Lib.hid ((HRA.out.below hb3).set 2 (.slice (some ⟨g, 0, none⟩) Lc c8))
 have hbutA : But w.heap.size w3 (w3.setCell ⟨w.heap.size, 2, none⟩ (.slice (some ⟨g, 0, none⟩) Lc c8)) := (But.refl _ _).set _ _
 have HBA := Lib.hid hbutA
 have hsz1 := HSZ.out
 have ho4 := z1c ho3 hbutA (by omega)
 have hown : OwnL (w3.setCell ⟨w.heap.size, 2, none⟩ (.slice (some ⟨g, 0, none⟩) Lc c8)) W1.heap.size (.slice (some ⟨g, 0, none⟩) cs.length c8) cs := by rw [<- HLc.out]; exact ho4
 have hgW : W1.heap.size <= g := (ho3.lt g rfl).1
 have hc8 : Lc <= c8 := by
  obtain ⟨cur, -, -, -, -, -, h6, -⟩ := z3u hown
  have := HLc.out; omega
 have a4 := (HRA.out.below hb3).cell (i := 2) rfl
 have t4 := (HRA.out.below hb3).thaw 2
 have a5 : (w3.setCell ⟨w.heap.size, 2, none⟩ (.slice (some ⟨g, 0, none⟩) Lc c8)).cell? ⟨w.heap.size, 2, none⟩ = some (.slice (some ⟨g, 0, none⟩) Lc c8) := HRA3.out.cell rfl
 have HRC3 := Lib.hid ((HRC.out.below hb3).keep (hbutA.block (w.heap.size + 1) (by omega)))
 have q0 := HRC3.out.cell (i := 0) rfl
 have q1 := HRC3.out.cell (i := 1) rfl
 have q2 := HRC3.out.cell (i := 2) rfl
 have q3 := HRC3.out.cell (i := 3) rfl
 have HTH : Hid ((w3.setCell ⟨w.heap.size, 2, none⟩ (.slice (some ⟨g, 0, none⟩) Lc c8)).there g (j * 4) 4) := Lib.hid (fun i hi => by
  obtain ⟨cur, hh, hs, -, -, -, h6, -⟩ := z3u hown
  have := HLc.out
  exact ⟨by rw [z13 hh, Array.getElem?_eq_getElem (by omega)]; rfl, z12 hh _⟩)
 have hiL : (Tryz.prog.info? 32).map (·.size) = some 4 := by kernel_rfl
 have HOS := Lib.hid (own_setL (p := j) (x := ⟨ci, cq, ca, cv⟩) hown (by have := HLc.out; omega))
 have HBS := Lib.hid (z06 g (flatL [⟨ci, cq, ca, cv⟩]) (j * 4) (w3.setCell ⟨w.heap.size, 2, none⟩ (.slice (some ⟨g, 0, none⟩) Lc c8)))
 have RA6 := HRA3.out.keep (HBS.out.block w.heap.size (by omega))
 have RB6 := ((HRB.out.below hb3).keep (hbutA.block (w.heap.size + 1 + 1) (by omega))).keep (HBS.out.block (w.heap.size + 1 + 1) (by omega))
 clear hbutA hb3 ho3 ho4 hown hg8 HC2 HK2
 go_wp2_with (with_reducible refine zcd ?_; refine Lib.hid ?_; refine z3s (ty := 32) (x := .tmp 28) (y := .tmp 27) rfl ?_)
 refine Lib.hid ?_
 refine wpList_store_mid rfl 32 (.tmp 28) (.tmp 27) rfl g (j * 4) #[.int .i64 ci, .int .i64 cq, .int .i64 ca, .int .i64 cv] rfl rfl HTH.out hiL (all_oneCell_toArray (cs := [.int .i64 ci, .int .i64 cq, .int .i64 ca, .int .i64 cv]) (z50 (xs := [⟨ci, cq, ca, cv⟩]))) ?_
 obtain ⟨W6, HW6⟩ : ∃ W, Hid (W = (w3.setCell ⟨w.heap.size, 2, none⟩ (.slice (some ⟨g, 0, none⟩) Lc c8)).setCells g (j * 4) (flatL [⟨ci, cq, ca, cv⟩])) := ⟨_, Lib.hid rfl⟩
 change wpList _ _ _ _ _ ((w3.setCell ⟨w.heap.size, 2, none⟩ (.slice (some ⟨g, 0, none⟩) Lc c8)).setCells g (j * 4) (flatL [⟨ci, cq, ca, cv⟩]))
 rw [<- HW6.out] at HOS HBS RA6 RB6 ⊢
 have y0 := RA6.cell (i := 0) rfl
 have y1 := RA6.cell (i := 1) rfl
 have y2 := RA6.cell (i := 2) rfl
 have y3 := RA6.cell (i := 3) rfl
 have t0 := RB6.thaw 0
 have t1 := RB6.thaw 1
 have t2 := RB6.thaw 2
 have t3 := RB6.thaw 3
 have e0 := RB6.cell (i := 0) rfl
 have e1 := RB6.cell (i := 1) rfl
 have e2 := RB6.cell (i := 2) rfl
 have e3 := RB6.cell (i := 3) rfl
 have RP := z1b RB6 v (.slice ae Le ce) (.slice (some ⟨g, 0, none⟩) Lc c8) M
 have f0 := RP.cell (i := 0) rfl
 have f1 := RP.cell (i := 1) rfl
 have f2 := RP.cell (i := 2) rfl
 have f3 := RP.cell (i := 3) rfl
 have HFIN : Hid (z1n ⟨v, es, putL ⟨ci, cq, ca, cv⟩ cs⟩ w (.returned (.agg (stC v (.slice ae Le ce) (.slice (some ⟨g, 0, none⟩) Lc c8) M))) (putS W6 (w.heap.size + 1 + 1) v (.slice ae Le ce) (.slice (some ⟨g, 0, none⟩) Lc c8) M)) := Lib.hid (by
  have hb6 : Below w.heap.size w W6 := ((z00 HB1.out HB3.out).trans (HBA.out.below (B := w.heap.size) (by omega))).trans (HBS.out.below (B := w.heap.size) (by omega))
  have hbP := z0f W6 (w.heap.size + 1 + 1) v (.slice ae Le ce) (.slice (some ⟨g, 0, none⟩) Lc c8) M
  have hbl := hb6.trans (hbP.below (B := w.heap.size) (by omega))
  have hst := (HLT.out.blw hbl).at_ hbl.size
  have hoS := z1c HOS.out hbP (by omega)
  have hlen : (putL ⟨ci, cq, ca, cv⟩ cs).length = Lc := by rw [HPUT.out, List.length_set, HLc.out]
  refine ⟨ae, ce, some ⟨g, 0, none⟩, c8, M, ?_, ⟨?_, ?_, fun h => (by cases h), ?_⟩, ?_, hbl⟩
  ·rw [show (⟨v, es, putL ⟨ci, cq, ca, cv⟩ cs⟩ : Mdl).es.length = Le from HLe.out.symm, show (⟨v, es, putL ⟨ci, cq, ca, cv⟩ cs⟩ : Mdl).cs.length = Lc from hlen]
  ·exact hst.es
  ·have h9 := OwnL.sl (xs := cs.set j ⟨ci, cq, ca, cv⟩) (v := .slice (some ⟨g, 0, none⟩) cs.length c8) hoS
   rw [show (⟨v, es, putL ⟨ci, cq, ca, cv⟩ cs⟩ : Mdl).cs = cs.set j ⟨ci, cq, ca, cv⟩ from HPUT.out, List.length_set]
   exact h9
  ·obtain ⟨n9, D9, h8, -⟩ := hst.map
   refine ⟨n0, D, z0r (z0r HOM.out (hb6.block _ HLT.out.lt)) (hbP.block _ (by have := HLT.out.lt; omega)), ?_⟩
   rw [show (⟨v, es, putL ⟨ci, cq, ca, cv⟩ cs⟩ : Mdl).cs = cs.set j ⟨ci, cq, ca, cv⟩ from HPUT.out]
   exact HGS.out
  ·have h9 := OwnL.fsh (xs := cs.set j ⟨ci, cq, ca, cv⟩) (v := .slice (some ⟨g, 0, none⟩) cs.length c8) (z1g (B' := w.heap.size) hoS (by omega))
   rw [show (⟨v, es, putL ⟨ci, cq, ca, cv⟩ cs⟩ : Mdl).cs = cs.set j ⟨ci, cq, ca, cv⟩ from HPUT.out, List.length_set]
   exact h9)
 clear RA6 RB6 RP a3 a4 a5 t4 q0 q1 q2 q3 HOS HW6
 go_wp2
 exact bodyPost_ret (v := .agg (stC v (.slice ae Le ce) (.slice (some ⟨g, 0, none⟩) Lc c8) M)) (by simp [results, Tryz.results83, go_sem, f0, f1, f2, f3]) rfl HFIN.out
end Go.Proofs.YtdkkkeoicekdgaaGreatDoor.Md

end
