/- The document's Do. -/
import Derived.Test.YtdkkkeoicekdgaaGreatDoorZFMto

namespace Go.Proofs.YtdkkkeoicekdgaaGreatDoor.Md
set_option maxHeartbeats 12800000
set_option maxRecDepth 100000
open Go.Lib (hid)
open Go.RowKit Go.Maps Go.WideShapes Go.WideMaps Go.Proofs.YtdkkkeoicekdgaaGreatDoor Go.Proofs.YtdkkkeoicekdgaaGreatDoor.Ca
def RdP (m : Mdl) (c : Cmd) (w : World) (e : Ending) (w' : World) : Prop := ∃ a1 c1 a2 c2, e = .returned (.tuple #[.agg (mdC (doF m c).1.vr (.slice a1 (doF m c).1.es.length c1) (.slice a2 (doF m c).1.cs.length c2)), clV (doF m c).2]) /\ SlE w' (Old w') (.slice a1 (doF m c).1.es.length c1) (doF m c).1.es /\ SlL w' (Old w') (.slice a2 (doF m c).1.cs.length c2) (doF m c).1.cs /\ Below w.heap.size w w'
theorem zdm {v : Int} {a c : Option Addr} {n1 n2 n3 n4 : Nat} : ∀ (i : Nat) s, [Value.int .i64 v, Value.slice a n1 n2, Value.slice c n3 n4][i]? ≠ some (.string s)
 | 0, s, h => by cases h
 | 1, s, h => by cases h
 | 2, s, h => by cases h
 | _ + 3, s, h => by simp at h
theorem no_text0 : ∀ (i : Nat) s, [Value.int .i64 0, Value.int .i64 0, Value.int .i64 0, Value.int .i64 0][i]? ≠ some (.string s)
 | 0, s, h => by cases h
 | 1, s, h => by cases h
 | 2, s, h => by cases h
 | 3, s, h => by cases h
 | _ + 4, s, h => by simp at h
theorem z6u {w w' : World} {v : Value} {xs : List Ent} {A : Nat} {t : TypeId} {cs : List Value} (h : SlE w (Old w) v xs) (hA : Row w A t cs) (hn : ∀ (i : Nat) s, cs[i]? ≠ some (.string s)) (hb : But A w w') : SlE w' (Old w') v xs :=
 Sl.keep (z3d h hA hn) (fun b hb2 => hb.block b hb2.2) (fun b hb2 => by have h1 : b < w.heap.size := hb2.1; have h2 := hb.size; show b < _; omega) (fun _ _ h => h)
theorem zg3 {w w' : World} {B A : Nat} {v : Value} {xs : List Cli} (h : SlL w (Fsh B w) v xs) (hA : A < B) (hb : But A w w') : SlL w' (Fsh B w') v xs :=
 Sl.keep h (fun b hb2 => hb.block b (by have := hb2.1; omega)) (fun b hb2 => ⟨hb2.1, by have h1 := hb2.2; have h2 := hb.size; omega⟩) (fun _ _ h => h)
theorem sll_old {w : World} {B : Nat} {v : Value} {xs : List Cli} (h : SlL w (Fsh B w) v xs) : SlL w (Old w) v xs := Sl.keep h (fun _ _ => rfl) (fun _ hb => hb.2) (fun _ _ h => h)
theorem sll_lt {w w' : World} {B A : Nat} {v : Value} {xs : List Cli} (h : SlL w (fun b => b < B) v xs) (hA : B <= A) (hb : But A w w') : SlL w' (fun b => b < B) v xs :=
 Sl.keep h (fun b hb2 => hb.block b (by have h3 : b < B := hb2; omega)) (fun _ h => h) (fun _ _ h => h)
theorem z3u {w w' : World} {B : Nat} {v : Value} {xs : List Cli} (h : SlL w (fun b => b < B) v xs) (hB : B <= w.heap.size) (hb : Below w.heap.size w w') : SlL w' (fun b => b < B) v xs :=
 Sl.keep h (fun b hb2 => hb.block b (by have h3 : b < B := hb2; omega)) (fun _ h => h) (fun _ _ h => h)
theorem sll_ltO {w : World} {B : Nat} {v : Value} {xs : List Cli} (h : SlL w (fun b => b < B) v xs) (hB : B <= w.heap.size) : SlL w (Old w) v xs :=
 Sl.keep h (fun _ _ => rfl) (fun _ hb => Nat.lt_of_lt_of_le hb hB) (fun _ _ h => h)
structure Pk (w wo : World) (m : Mdl) (c : Cmd) (ac : Option Addr) (cc L oo : Nat) (vm : Int) (am : Option Addr) (nm cm : Nat) (em : List Ent) (km : Int) : Prop where
 hx : Row wo w.heap.size 25 [.int .i64 vm, .slice am nm cm, .slice ac L cc]
 hr : Row wo (w.heap.size + 1 + 1) 25 [.int .i64 0, .slice none 0 0, .slice none 0 0]
 ht : Row wo (w.heap.size + 1 + 1 + 1) 32 [.int .i64 0, .int .i64 0, .int .i64 0, .int .i64 0]
 ho : Row wo oo 32 [.int .i64 c.cl, .int .i64 c.sq, .int .i64 km, .int .i64 vm]
 he : SlE wo (Old wo) (.slice am nm cm) em
 hc : SlL wo (fun b => b < w.heap.size) (.slice ac L cc) m.cs
 hb : Below w.heap.size w wo
 hn : nm = em.length
 hoo : w.heap.size + 4 <= oo
 hd : doF m c = (⟨vm, em, putL ⟨c.cl, c.sq, km, vm⟩ m.cs⟩, ⟨c.cl, c.sq, km, vm⟩)
theorem cg_a {v : Int} {es : List Ent} {ch : List Chg} {k : Nat} (h : z17 es ch = .error k) : chgF v es ch = .error k := by unfold chgF; rw [h]
theorem cg_b {v : Int} {es l : List Ent} {ch : List Chg} (h : z17 es ch = .ok l) (hb : (z0r l).2 ≠ 0) : chgF v es ch = .error 2 := by unfold chgF; rw [h]; simp only; rw [if_pos hb]
theorem cg_c {v : Int} {es l : List Ent} {ch : List Chg} (h : z17 es ch = .ok l) (hb : (z0r l).2 = 0) (hv : v = 1073741824) : chgF v es ch = .error 130 := by unfold chgF; rw [h]; simp only; rw [if_neg (by simp [hb]), if_pos hv]
theorem cg_d {v : Int} {es l : List Ent} {ch : List Chg} (h : z17 es ch = .ok l) (hb : (z0r l).2 = 0) (hv : ¬ v = 1073741824) : chgF v es ch = .ok l := by unfold chgF; rw [h]; simp only; rw [if_neg (by simp [hb]), if_neg hv]
theorem zi5 {m : Mdl} {c : Cmd} {k : Nat} (h : chgF m.vr m.es c.ch = .error k) : exeF m c = (⟨m.vr, m.es, putL ⟨c.cl, c.sq, k, m.vr⟩ m.cs⟩, ⟨c.cl, c.sq, k, m.vr⟩) := by unfold exeF; rw [h]
theorem exe_yes {m : Mdl} {c : Cmd} {l : List Ent} (h : chgF m.vr m.es c.ch = .ok l) : exeF m c = (⟨m.vr + 1, l, putL ⟨c.cl, c.sq, 0, m.vr + 1⟩ m.cs⟩, ⟨c.cl, c.sq, 0, m.vr + 1⟩) := by unfold exeF; rw [h]
theorem rdo_any (w : World) (m : Mdl) (ae : Option Addr) (ce : Nat) (ac : Option Addr) (cc : Nat) (c : Cmd) (b : Option Addr) (capc : Nat) (hE : SlE w (Old w) (.slice ae m.es.length ce) m.es) (hC : SlL w (Old w) (.slice ac m.cs.length cc) m.cs) (hV : EnvC w) (hR : RgtM m) (hM : mayC c = true) (hH : SlH w (Old w) (.slice b c.ch.length capc) c.ch) (hFC : ∀ x, x ∈ c.ch -> FitE x.e) :
  Calls Tryz.prog 18 #[.agg (mdC m.vr (.slice ae m.es.length ce) (.slice ac m.cs.length cc)), .agg #[.int .i64 c.cl, .int .i64 c.sq, .slice b c.ch.length capc]] w (RdP m c w) := by
 obtain ⟨vr, es, cs⟩ := m;obtain ⟨cl, sq, ch⟩ := c;simp only at hE hC hH hFC ⊢;have bj := hid (fun W (h : Below w.heap.size w W) => zf9 W ae ce es b capc ch (hE.old h) (hH.old h) (z6h (z19 hR.es)) hFC (hV.below h));have bB := hid hR;have bC : Hid (SrtC cs) := hid hR.cs.srt;have bd : Hid (cs.length <= 16) := hid hR.cs.len;have HV := hid hV;have bU := hR.lo;have bV := hR.hi;simp only at bU bV;obtain ⟨L, HL⟩ := nmd (cs.length);obtain ⟨Le, H⟩ := nmd (es.length);obtain ⟨Lh, bD⟩ := nmd (ch.length)
 have ct : L <= 16 := by have := HL.out; have := bd.out; omega
 rw [<- H.out, <- bD.out] at bj;have ax := hid hE;have af := hid hC;rw [<- H.out] at ax;rw [<- HL.out] at af;rw [<- HL.out, <- H.out, <- bD.out];clear hE hC hV hR hM hH hFC;obtain ⟨W4, Y⟩ := nmd (((((w.alloc (.cells (mdC vr (.slice ae Le ce) (.slice ac L cc)) 25)).alloc (.cells #[.int .i64 cl, .int .i64 sq, .slice b Lh capc] 28)).alloc (.cells #[.int .i64 0, .slice none 0 0, .slice none 0 0] 25)).alloc (.cells #[.int .i64 0, .int .i64 0, .int .i64 0, .int .i64 0] 32)));have aT : Hid (Below w.heap.size w W4) := hid (by rw [Y.out]; exact (z63 w _ _ _).alloc (by simp; omega) _);have aX : Hid (Row W4 w.heap.size 25 [.int .i64 vr, .slice ae Le ce, .slice ac L cc]) := hid (by rw [Y.out]; exact (((z02 w (mdC vr (.slice ae Le ce) (.slice ac L cc)) _).alloc _).alloc _).alloc _)
 have bm : Hid (Row W4 (w.heap.size + 1) 28 [.int .i64 cl, .int .i64 sq, .slice b Lh capc]) := hid (by
  rw [Y.out];have h := ((z02 (w.alloc (.cells (mdC vr (.slice ae Le ce) (.slice ac L cc)) 25)) #[.int .i64 cl, .int .i64 sq, .slice b Lh capc] 28).alloc (.cells #[.int .i64 0, .slice none 0 0, .slice none 0 0] 25)).alloc (.cells #[.int .i64 0, .int .i64 0, .int .i64 0, .int .i64 0] 32)
  simpa only [World.size_alloc] using h)
 have bn : Hid (Row W4 (w.heap.size + 1 + 1) 25 [.int .i64 0, .slice none 0 0, .slice none 0 0]) := hid (by
  rw [Y.out];have h := (z02 ((w.alloc (.cells (mdC vr (.slice ae Le ce) (.slice ac L cc)) 25)).alloc (.cells #[.int .i64 cl, .int .i64 sq, .slice b Lh capc] 28)) #[.int .i64 0, .slice none 0 0, .slice none 0 0] 25).alloc (.cells #[.int .i64 0, .int .i64 0, .int .i64 0, .int .i64 0] 32)
  simpa only [World.size_alloc] using h)
 have bo : Hid (Row W4 (w.heap.size + 1 + 1 + 1) 32 [.int .i64 0, .int .i64 0, .int .i64 0, .int .i64 0]) := hid (by
  rw [Y.out];have h := z02 (((w.alloc (.cells (mdC vr (.slice ae Le ce) (.slice ac L cc)) 25)).alloc (.cells #[.int .i64 cl, .int .i64 sq, .slice b Lh capc] 28)).alloc (.cells #[.int .i64 0, .slice none 0 0, .slice none 0 0] 25)) #[.int .i64 0, .int .i64 0, .int .i64 0, .int .i64 0] 32
  simpa only [World.size_alloc] using h)
 have a2 : ((((w.alloc (.cells (mdC vr (.slice ae Le ce) (.slice ac L cc)) 25)).alloc (.cells #[.int .i64 cl, .int .i64 sq, .slice b Lh capc] 28)).alloc (.cells #[.int .i64 0, .slice none 0 0, .slice none 0 0] 25)).alloc (.cells #[.int .i64 0, .int .i64 0, .int .i64 0, .int .i64 0] 32)).cell? ⟨w.heap.size, 2, none⟩ = some (.slice ac L cc) := by rw [<- Y.out]; exact aX.out.cell rfl
 have bW : Hid (w.heap.size + 4 = W4.heap.size) := hid (by rw [Y.out]; simp)
 go_enter Tryz.func18, Tryz.ntmps18
 go_wp2;rw [<- Y.out];clear a2 Y
 go_loopw [6, 17] (fun kn i wr => ∃ (k : Nat) (q : Bool), k <= L /\ i = .int .i64 k /\ kn = .bool q /\ Hid (Below W4.heap.size W4 wr) /\ Hid (if q then ∃ x, z2g cs cl = some x /\ ¬ x.sq = sq /\ ¬ sq < x.sq else ∀ j x, j < k -> cs[j]? = some x -> x.id ≠ cl)) (fun _ i _ => L - (intOf i).toNat)
 case atStart => exact ⟨0, false, Nat.zero_le _, rfl, rfl, hid (Below.refl _ _), hid (by simp)⟩
 case round =>
  obtain ⟨k, q, hk, rfl, rfl, ag, HQ⟩ := hrel;have aP := z00 aT.out ag.out;have Z := hid (aX.out.below ag.out);have aQ := hid (bm.out.below ag.out);have bq := hid (bn.out.below ag.out);have bt := hid (bo.out.below ag.out)
  by_cases hlt : k < L
  ·obtain ⟨x, hx⟩ : ∃ x, cs[k]? = some x := ⟨_, List.getElem?_eq_getElem (by have := HL.out; omega)⟩
   have HX := hid hx;obtain ⟨b0, d, rfl, -, x0, x1, x2, x3⟩ := (af.out.old aP).get hx;clear hx;obtain ⟨xi, xq, xa, xv⟩ := x;simp only at x0 x1 x2 x3;have bu := z04 wr (.cells #[.int .i64 xi, .int .i64 xq, .int .i64 xa, .int .i64 xv] 32);obtain ⟨wx, I⟩ := nmd (wr.alloc (.cells #[.int .i64 xi, .int .i64 xq, .int .i64 xa, .int .i64 xv] 32));have aR : Hid (Below W4.heap.size W4 wx) := hid (by rw [I.out]; exact z00 ag.out bu);have bE : Hid (Below w.heap.size w wx) := hid (by rw [I.out]; exact z00 aP bu);have F : Hid (Row wx w.heap.size 25 [.int .i64 vr, .slice ae Le ce, .slice (some ⟨b0, d, none⟩) L cc]) := hid (aX.out.below aR.out);have ah := hid (bm.out.below aR.out);have bf := hid (bn.out.below aR.out);have bg := hid (bo.out.below aR.out);obtain ⟨ox, aU⟩ := nmd (wr.heap.size);have aV : Hid (Row wx ox 32 [.int .i64 xi, .int .i64 xq, .int .i64 xa, .int .i64 xv]) := hid (by rw [I.out, aU.out]; exact z02 wr #[.int .i64 xi, .int .i64 xq, .int .i64 xa, .int .i64 xv] 32)
   have cu : w.heap.size + 4 <= ox := by have := aU.out; have := ag.out.size; have := bW.out; omega
   have y0 : (wr.alloc (.cells #[.int .i64 xi, .int .i64 xq, .int .i64 xa, .int .i64 xv] 32)).cell? ⟨(w.heap.size + 1), 0, none⟩ = some (.int .i64 cl) := by rw [<- I.out]; exact ah.out.cell rfl
   have y1 : (wr.alloc (.cells #[.int .i64 xi, .int .i64 xq, .int .i64 xa, .int .i64 xv] 32)).cell? ⟨(w.heap.size + 1), 1, none⟩ = some (.int .i64 sq) := by rw [<- I.out]; exact ah.out.cell rfl
   have d0 : (wr.alloc (.cells #[.int .i64 xi, .int .i64 xq, .int .i64 xa, .int .i64 xv] 32)).cell? ⟨wr.heap.size, 0, none⟩ = some (.int .i64 xi) := (z02 wr #[.int .i64 xi, .int .i64 xq, .int .i64 xa, .int .i64 xv] 32).cell rfl;have d1 : (wr.alloc (.cells #[.int .i64 xi, .int .i64 xq, .int .i64 xa, .int .i64 xv] 32)).cell? ⟨wr.heap.size, 1, none⟩ = some (.int .i64 xq) := (z02 wr #[.int .i64 xi, .int .i64 xq, .int .i64 xa, .int .i64 xv] 32).cell rfl;clear bu aP
   by_cases he : xi = cl
   ·have u1 : (xi == cl) = true := by rw [beq_iff_eq]; exact he
    have HF := hid (z9e bC.out HX.out he)
    by_cases hq : xq = sq
    ·have u2 : (xq == sq) = true := by rw [beq_iff_eq]; exact hq
     have HD := hid (zib (m := ⟨vr, es, cs⟩) (c := ⟨cl, sq, ch⟩) HF.out hq);clear he hq HQ;go_wp2;rw [<- aU.out, <- I.out];clear I aU d0 d1 y0 y1;have ai : Hid (wx.drew.cell? ⟨w.heap.size, 0, none⟩ = some (.int .i64 vr) /\ wx.drew.cell? ⟨w.heap.size, 1, none⟩ = some (.slice ae Le ce) /\ wx.drew.cell? ⟨w.heap.size, 2, none⟩ = some (.slice (some ⟨b0, d, none⟩) L cc) /\ wx.drew.cell? ⟨ox, 0, none⟩ = some (.int .i64 xi) /\ wx.drew.cell? ⟨ox, 1, none⟩ = some (.int .i64 xq) /\ wx.drew.cell? ⟨ox, 2, none⟩ = some (.int .i64 xa) /\ wx.drew.cell? ⟨ox, 3, none⟩ = some (.int .i64 xv)) := hid ⟨(z0l _ _).trans (F.out.cell rfl), (z0l _ _).trans (F.out.cell rfl), (z0l _ _).trans (F.out.cell rfl), (z0l _ _).trans (aV.out.cell rfl), (z0l _ _).trans (aV.out.cell rfl), (z0l _ _).trans (aV.out.cell rfl), (z0l _ _).trans (aV.out.cell rfl)⟩;have ay := hid (bf.out.below (Below.refl wx.heap.size wx).drew);have az := hid (bg.out.below (Below.refl wx.heap.size wx).drew);have aj := hid bE.out.drew;have aA := hid (F.out.below (Below.refl wx.heap.size wx).drew);have aq := hid (aV.out.below (Below.refl wx.heap.size wx).drew);refine wp_region_noPanic ?_;refine wp_region_held_drew (S := fun W => W.cell? ⟨w.heap.size, 0, none⟩ = some (.int .i64 vr) /\ W.cell? ⟨w.heap.size, 1, none⟩ = some (.slice ae Le ce) /\ W.cell? ⟨w.heap.size, 2, none⟩ = some (.slice (some ⟨b0, d, none⟩) L cc) /\ W.cell? ⟨ox, 0, none⟩ = some (.int .i64 xi) /\ W.cell? ⟨ox, 1, none⟩ = some (.int .i64 xq) /\ W.cell? ⟨ox, 2, none⟩ = some (.int .i64 xa) /\ W.cell? ⟨ox, 3, none⟩ = some (.int .i64 xv)) (by kernel_rfl) ai.out (fun hz => ?_)
     generalize wx.drew = W6 at *
     refine wT 0 { dst := some 31, op := Go.Op.load 25 (Go.Operand.tmp 2), type := 25, pos := "ref.go:59", after := #[], guard := none } (v := ?_) (Or.inl ⟨by rfl, ?_⟩) ?_
     rotate_left
     ·(intro w hSw; (try dsimp only at hSw); go_simp) <;> with_reducible rfl
     simp only [Act.put, la, lb, lc];refine wT 1 { dst := some 32, op := Go.Op.load 32 (Go.Operand.tmp 8), type := 32, pos := "ref.go:59", after := #[{ on := 2, ground := Go.Ground.gcOnly Go.Departure.lateStores }], guard := none } (v := ?_) (Or.inl ⟨by rfl, ?_⟩) ?_
     rotate_left
     ·(intro w hSw; (try dsimp only at hSw); go_simp) <;> with_reducible rfl
     simp only [Act.put, la, lb, lc];have g := z11 W6 (w.heap.size + 1 + 1) vr (.slice ae Le ce) (.slice (some ⟨b0, d, none⟩) L cc);have f := z1d (putM W6 (w.heap.size + 1 + 1) vr (.slice ae Le ce) (.slice (some ⟨b0, d, none⟩) L cc)) (w.heap.size + 1 + 1 + 1) xi xq xa xv;have u := hid (z6r ay.out az.out (by omega) vr (.slice ae Le ce) (.slice (some ⟨b0, d, none⟩) L cc) ⟨xi, xq, xa, xv⟩)
     have J : Hid ((putM W6 (w.heap.size + 1 + 1) vr (.slice ae Le ce) (.slice (some ⟨b0, d, none⟩) L cc)).cell? ⟨w.heap.size, 0, none⟩ = some (.int .i64 vr) /\ (putM W6 (w.heap.size + 1 + 1) vr (.slice ae Le ce) (.slice (some ⟨b0, d, none⟩) L cc)).cell? ⟨w.heap.size, 1, none⟩ = some (.slice ae Le ce) /\ (putM W6 (w.heap.size + 1 + 1) vr (.slice ae Le ce) (.slice (some ⟨b0, d, none⟩) L cc)).cell? ⟨w.heap.size, 2, none⟩ = some (.slice (some ⟨b0, d, none⟩) L cc) /\ (putM W6 (w.heap.size + 1 + 1) vr (.slice ae Le ce) (.slice (some ⟨b0, d, none⟩) L cc)).cell? ⟨ox, 0, none⟩ = some (.int .i64 xi) /\ (putM W6 (w.heap.size + 1 + 1) vr (.slice ae Le ce) (.slice (some ⟨b0, d, none⟩) L cc)).cell? ⟨ox, 1, none⟩ = some (.int .i64 xq) /\ (putM W6 (w.heap.size + 1 + 1) vr (.slice ae Le ce) (.slice (some ⟨b0, d, none⟩) L cc)).cell? ⟨ox, 2, none⟩ = some (.int .i64 xa) /\ (putM W6 (w.heap.size + 1 + 1) vr (.slice ae Le ce) (.slice (some ⟨b0, d, none⟩) L cc)).cell? ⟨ox, 3, none⟩ = some (.int .i64 xv)) := hid (by
      obtain ⟨k0, k1, k2, k3, k4, k5, k6⟩ := ai.out;exact ⟨(z08 g (by omega)).trans k0, (z08 g (by omega)).trans k1, (z08 g (by omega)).trans k2, (z08 g (by omega)).trans k3, (z08 g (by omega)).trans k4, (z08 g (by omega)).trans k5, (z08 g (by omega)).trans k6⟩
      )
     have aB : Hid ((putT (putM W6 (w.heap.size + 1 + 1) vr (.slice ae Le ce) (.slice (some ⟨b0, d, none⟩) L cc)) (w.heap.size + 1 + 1 + 1) xi xq xa xv).cell? ⟨w.heap.size, 0, none⟩ = some (.int .i64 vr) /\ (putT (putM W6 (w.heap.size + 1 + 1) vr (.slice ae Le ce) (.slice (some ⟨b0, d, none⟩) L cc)) (w.heap.size + 1 + 1 + 1) xi xq xa xv).cell? ⟨w.heap.size, 1, none⟩ = some (.slice ae Le ce) /\ (putT (putM W6 (w.heap.size + 1 + 1) vr (.slice ae Le ce) (.slice (some ⟨b0, d, none⟩) L cc)) (w.heap.size + 1 + 1 + 1) xi xq xa xv).cell? ⟨w.heap.size, 2, none⟩ = some (.slice (some ⟨b0, d, none⟩) L cc) /\ (putT (putM W6 (w.heap.size + 1 + 1) vr (.slice ae Le ce) (.slice (some ⟨b0, d, none⟩) L cc)) (w.heap.size + 1 + 1 + 1) xi xq xa xv).cell? ⟨ox, 0, none⟩ = some (.int .i64 xi) /\ (putT (putM W6 (w.heap.size + 1 + 1) vr (.slice ae Le ce) (.slice (some ⟨b0, d, none⟩) L cc)) (w.heap.size + 1 + 1 + 1) xi xq xa xv).cell? ⟨ox, 1, none⟩ = some (.int .i64 xq) /\ (putT (putM W6 (w.heap.size + 1 + 1) vr (.slice ae Le ce) (.slice (some ⟨b0, d, none⟩) L cc)) (w.heap.size + 1 + 1 + 1) xi xq xa xv).cell? ⟨ox, 2, none⟩ = some (.int .i64 xa) /\ (putT (putM W6 (w.heap.size + 1 + 1) vr (.slice ae Le ce) (.slice (some ⟨b0, d, none⟩) L cc)) (w.heap.size + 1 + 1 + 1) xi xq xa xv).cell? ⟨ox, 3, none⟩ = some (.int .i64 xv)) := hid (by
      obtain ⟨k0, k1, k2, k3, k4, k5, k6⟩ := J.out;exact ⟨(z08 f (by omega)).trans k0, (z08 f (by omega)).trans k1, (z08 f (by omega)).trans k2, (z08 f (by omega)).trans k3, (z08 f (by omega)).trans k4, (z08 f (by omega)).trans k5, (z08 f (by omega)).trans k6⟩
      )
     have M : Hid (RdP ⟨vr, es, cs⟩ ⟨cl, sq, ch⟩ w (.returned (.tuple #[.agg (mdC vr (.slice ae Le ce) (.slice (some ⟨b0, d, none⟩) L cc)), clV ⟨xi, xq, xa, xv⟩])) (putT (putM W6 (w.heap.size + 1 + 1) vr (.slice ae Le ce) (.slice (some ⟨b0, d, none⟩) L cc)) (w.heap.size + 1 + 1 + 1) xi xq xa xv)) := hid (by
      have D : Below w.heap.size w (putT (putM W6 (w.heap.size + 1 + 1) vr (.slice ae Le ce) (.slice (some ⟨b0, d, none⟩) L cc)) (w.heap.size + 1 + 1 + 1) xi xq xa xv) := (aj.out.trans (g.below (B := w.heap.size) (by omega))).trans (f.below (B := w.heap.size) (by omega));have hd : doF ⟨vr, es, cs⟩ ⟨cl, sq, ch⟩ = (⟨vr, es, cs⟩, ⟨xi, xq, xa, xv⟩) := HD.out
      unfold RdP
      rw [hd];simp only;exact ⟨ae, ce, (some ⟨b0, d, none⟩), cc, by rw [H.out, HL.out], by rw [<- H.out]; exact ax.out.old D, by rw [<- HL.out]; exact af.out.old D, D⟩
      )
     have a := u.out;obtain ⟨r0, r1, r2⟩ := a.c1;obtain ⟨s0, s1, s2⟩ := a.f1;clear a;refine wR 2 { dst := none, op := Go.Op.store 25 (Go.Operand.tmp 4) (Go.Operand.tmp 31), type := 0, pos := "ref.go:59", after := #[{ on := 0, ground := Go.Ground.data }, { on := 0, ground := Go.Ground.phase }, { on := 1, ground := Go.Ground.textOnly Go.Departure.lateStores }], guard := none } (fun K hK => ?_)
     go_simp
     refine hK.out _ _ ?_ (fun hz1 => ?_)
     ·exact J.out
     clear hK K hz r0 r1 r2 s0 s1 s2
     try simp only [Act.put, la, lb, lc]
     have a := u.out;obtain ⟨r0, r1, r2, r3⟩ := a.c2;obtain ⟨s0, s1, s2, s3⟩ := a.f2;clear a;refine wR 3 { dst := none, op := Go.Op.store 32 (Go.Operand.tmp 5) (Go.Operand.tmp 32), type := 0, pos := "ref.go:59", after := #[{ on := 1, ground := Go.Ground.data }, { on := 2, ground := Go.Ground.chain }, { on := 0, ground := Go.Ground.phase }, { on := 1, ground := Go.Ground.phase }, { on := 2, ground := Go.Ground.phase }], guard := none } (fun K hK => ?_)
     go_simp
     refine hK.out _ _ ?_ (fun hz2 => ?_)
     ·exact aB.out
     clear hK K hz1 r0 r1 r2 s0 s1 s2 r3 s3
     try simp only [Act.put, la, lb, lc]
     have a := u.out;obtain ⟨f0, f1, f2⟩ := a.g1;obtain ⟨g0, g1, g2, g3⟩ := a.g2;simp only at g0 g1 g2 g3 f0 f1 f2;clear a hz2;refine wpAnyH_done (by kernel_rfl) ?_ _;refine NoPanic.normal ?_;go_wp2;exact bodyPost_ret (v := .tuple #[.agg (mdC vr (.slice ae Le ce) (.slice (some ⟨b0, d, none⟩) L cc)), clV ⟨xi, xq, xa, xv⟩]) (by simp [results, Tryz.results18, go_sem, f0, f1, f2, g0, g1, g2, g3]) rfl M.out
    ·have u2 : (xq == sq) = false := by rw [beq_eq_false_iff_ne]; exact hq
     by_cases hg : sq < xq
     ·have u3 : decide (sq < xq) = true := decide_eq_true hg
      have HD := hid (zeh (m := ⟨vr, es, cs⟩) (c := ⟨cl, sq, ch⟩) HF.out hq hg);clear he hq hg HQ;go_wp2;rw [<- I.out];clear I aU d0 d1 y0 y1;have ai : Hid (wx.drew.cell? ⟨w.heap.size, 0, none⟩ = some (.int .i64 vr) /\ wx.drew.cell? ⟨w.heap.size, 1, none⟩ = some (.slice ae Le ce) /\ wx.drew.cell? ⟨w.heap.size, 2, none⟩ = some (.slice (some ⟨b0, d, none⟩) L cc) /\ wx.drew.cell? ⟨w.heap.size + 1, 0, none⟩ = some (.int .i64 cl) /\ wx.drew.cell? ⟨w.heap.size + 1, 1, none⟩ = some (.int .i64 sq)) := hid ⟨(z0l _ _).trans (F.out.cell rfl), (z0l _ _).trans (F.out.cell rfl), (z0l _ _).trans (F.out.cell rfl), (z0l _ _).trans (ah.out.cell rfl), (z0l _ _).trans (ah.out.cell rfl)⟩;have ay := hid (bf.out.below (Below.refl wx.heap.size wx).drew);have az := hid (bg.out.below (Below.refl wx.heap.size wx).drew);have aj := hid bE.out.drew;have aA := hid (F.out.below (Below.refl wx.heap.size wx).drew);have aq := hid (ah.out.below (Below.refl wx.heap.size wx).drew);refine wp_region_noPanic ?_;refine wp_region_held_drew (S := fun W => W.cell? ⟨w.heap.size, 0, none⟩ = some (.int .i64 vr) /\ W.cell? ⟨w.heap.size, 1, none⟩ = some (.slice ae Le ce) /\ W.cell? ⟨w.heap.size, 2, none⟩ = some (.slice (some ⟨b0, d, none⟩) L cc) /\ W.cell? ⟨w.heap.size + 1, 0, none⟩ = some (.int .i64 cl) /\ W.cell? ⟨w.heap.size + 1, 1, none⟩ = some (.int .i64 sq)) (by kernel_rfl) ai.out (fun hz => ?_)
      generalize wx.drew = W6 at *
      refine wT 0 { dst := some 38, op := Go.Op.load 25 (Go.Operand.tmp 2), type := 25, pos := "ref.go:62", after := #[], guard := none } (v := ?_) (Or.inl ⟨by rfl, ?_⟩) ?_
      rotate_left
      ·(intro w hSw; (try dsimp only at hSw); go_simp) <;> with_reducible rfl
      simp only [Act.put, la, lb, lc];refine wT 1 { dst := some 39, op := Go.Op.fieldAddr 28 (Go.Operand.tmp 3) 0, type := 0, pos := "ref.go:62", after := #[{ on := 6, ground := Go.Ground.gcOnly Go.Departure.lateStores }], guard := none } (v := ?_) (Or.inl ⟨by rfl, ?_⟩) ?_
      rotate_left
      ·(intro w hSw; (try dsimp only at hSw); go_simp) <;> with_reducible rfl
      simp only [Act.put, la, lb, lc];refine wT 2 { dst := some 40, op := Go.Op.load 3 (Go.Operand.tmp 39), type := 3, pos := "ref.go:62", after := #[{ on := 1, ground := Go.Ground.data }, { on := 6, ground := Go.Ground.gcOnly Go.Departure.lateStores }], guard := none } (v := ?_) (Or.inl ⟨by rfl, ?_⟩) ?_
      rotate_left
      ·(intro w hSw; (try dsimp only at hSw); go_simp) <;> with_reducible rfl
      simp only [Act.put, la, lb, lc];refine wT 3 { dst := some 41, op := Go.Op.fieldAddr 28 (Go.Operand.tmp 3) 1, type := 0, pos := "ref.go:62", after := #[{ on := 6, ground := Go.Ground.gcOnly Go.Departure.lateStores }], guard := none } (v := ?_) (Or.inl ⟨by rfl, ?_⟩) ?_
      rotate_left
      ·(intro w hSw; (try dsimp only at hSw); go_simp) <;> with_reducible rfl
      simp only [Act.put, la, lb, lc];refine wT 4 { dst := some 42, op := Go.Op.load 3 (Go.Operand.tmp 41), type := 3, pos := "ref.go:62", after := #[{ on := 3, ground := Go.Ground.data }, { on := 6, ground := Go.Ground.gcOnly Go.Departure.lateStores }], guard := none } (v := ?_) (Or.inl ⟨by rfl, ?_⟩) ?_
      rotate_left
      ·(intro w hSw; (try dsimp only at hSw); go_simp) <;> with_reducible rfl
      simp only [Act.put, la, lb, lc];refine wT 5 { dst := some 43, op := Go.Op.build 32 #[(0, Go.Operand.tmp 40), (1, Go.Operand.tmp 42), (2, Go.Operand.const (Go.Value.int Go.IntKind.i64 121))], type := 32, pos := "ref.go:62", after := #[{ on := 2, ground := Go.Ground.data }, { on := 4, ground := Go.Ground.data }, { on := 6, ground := Go.Ground.gcOnly Go.Departure.lateStores }], guard := none } (v := ?_) (Or.inl ⟨by rfl, ?_⟩) ?_
      rotate_left
      ·(intro w hSw; (try dsimp only at hSw); go_simp) <;> with_reducible rfl
      simp only [Act.put, la, lb, lc];have g := z11 W6 (w.heap.size + 1 + 1) vr (.slice ae Le ce) (.slice (some ⟨b0, d, none⟩) L cc);have f := z1d (putM W6 (w.heap.size + 1 + 1) vr (.slice ae Le ce) (.slice (some ⟨b0, d, none⟩) L cc)) (w.heap.size + 1 + 1 + 1) cl sq 121 0;have u := hid (z6r ay.out az.out (by omega) vr (.slice ae Le ce) (.slice (some ⟨b0, d, none⟩) L cc) ⟨cl, sq, 121, 0⟩)
      have J : Hid ((putM W6 (w.heap.size + 1 + 1) vr (.slice ae Le ce) (.slice (some ⟨b0, d, none⟩) L cc)).cell? ⟨w.heap.size, 0, none⟩ = some (.int .i64 vr) /\ (putM W6 (w.heap.size + 1 + 1) vr (.slice ae Le ce) (.slice (some ⟨b0, d, none⟩) L cc)).cell? ⟨w.heap.size, 1, none⟩ = some (.slice ae Le ce) /\ (putM W6 (w.heap.size + 1 + 1) vr (.slice ae Le ce) (.slice (some ⟨b0, d, none⟩) L cc)).cell? ⟨w.heap.size, 2, none⟩ = some (.slice (some ⟨b0, d, none⟩) L cc) /\ (putM W6 (w.heap.size + 1 + 1) vr (.slice ae Le ce) (.slice (some ⟨b0, d, none⟩) L cc)).cell? ⟨w.heap.size + 1, 0, none⟩ = some (.int .i64 cl) /\ (putM W6 (w.heap.size + 1 + 1) vr (.slice ae Le ce) (.slice (some ⟨b0, d, none⟩) L cc)).cell? ⟨w.heap.size + 1, 1, none⟩ = some (.int .i64 sq)) := hid (by
       obtain ⟨k0, k1, k2, k3, k4⟩ := ai.out;exact ⟨(z08 g (by omega)).trans k0, (z08 g (by omega)).trans k1, (z08 g (by omega)).trans k2, (z08 g (by omega)).trans k3, (z08 g (by omega)).trans k4⟩
       )
      have aB : Hid ((putT (putM W6 (w.heap.size + 1 + 1) vr (.slice ae Le ce) (.slice (some ⟨b0, d, none⟩) L cc)) (w.heap.size + 1 + 1 + 1) cl sq 121 0).cell? ⟨w.heap.size, 0, none⟩ = some (.int .i64 vr) /\ (putT (putM W6 (w.heap.size + 1 + 1) vr (.slice ae Le ce) (.slice (some ⟨b0, d, none⟩) L cc)) (w.heap.size + 1 + 1 + 1) cl sq 121 0).cell? ⟨w.heap.size, 1, none⟩ = some (.slice ae Le ce) /\ (putT (putM W6 (w.heap.size + 1 + 1) vr (.slice ae Le ce) (.slice (some ⟨b0, d, none⟩) L cc)) (w.heap.size + 1 + 1 + 1) cl sq 121 0).cell? ⟨w.heap.size, 2, none⟩ = some (.slice (some ⟨b0, d, none⟩) L cc) /\ (putT (putM W6 (w.heap.size + 1 + 1) vr (.slice ae Le ce) (.slice (some ⟨b0, d, none⟩) L cc)) (w.heap.size + 1 + 1 + 1) cl sq 121 0).cell? ⟨w.heap.size + 1, 0, none⟩ = some (.int .i64 cl) /\ (putT (putM W6 (w.heap.size + 1 + 1) vr (.slice ae Le ce) (.slice (some ⟨b0, d, none⟩) L cc)) (w.heap.size + 1 + 1 + 1) cl sq 121 0).cell? ⟨w.heap.size + 1, 1, none⟩ = some (.int .i64 sq)) := hid (by
       obtain ⟨k0, k1, k2, k3, k4⟩ := J.out;exact ⟨(z08 f (by omega)).trans k0, (z08 f (by omega)).trans k1, (z08 f (by omega)).trans k2, (z08 f (by omega)).trans k3, (z08 f (by omega)).trans k4⟩
       )
      have M : Hid (RdP ⟨vr, es, cs⟩ ⟨cl, sq, ch⟩ w (.returned (.tuple #[.agg (mdC vr (.slice ae Le ce) (.slice (some ⟨b0, d, none⟩) L cc)), clV ⟨cl, sq, 121, 0⟩])) (putT (putM W6 (w.heap.size + 1 + 1) vr (.slice ae Le ce) (.slice (some ⟨b0, d, none⟩) L cc)) (w.heap.size + 1 + 1 + 1) cl sq 121 0)) := hid (by
       have D : Below w.heap.size w (putT (putM W6 (w.heap.size + 1 + 1) vr (.slice ae Le ce) (.slice (some ⟨b0, d, none⟩) L cc)) (w.heap.size + 1 + 1 + 1) cl sq 121 0) := (aj.out.trans (g.below (B := w.heap.size) (by omega))).trans (f.below (B := w.heap.size) (by omega));have hd : doF ⟨vr, es, cs⟩ ⟨cl, sq, ch⟩ = (⟨vr, es, cs⟩, ⟨cl, sq, 121, 0⟩) := HD.out
       unfold RdP
       rw [hd];simp only;exact ⟨ae, ce, (some ⟨b0, d, none⟩), cc, by rw [H.out, HL.out], by rw [<- H.out]; exact ax.out.old D, by rw [<- HL.out]; exact af.out.old D, D⟩
       )
      have a := u.out;obtain ⟨r0, r1, r2⟩ := a.c1;obtain ⟨s0, s1, s2⟩ := a.f1;clear a;refine wR 6 { dst := none, op := Go.Op.store 25 (Go.Operand.tmp 4) (Go.Operand.tmp 38), type := 0, pos := "ref.go:62", after := #[{ on := 0, ground := Go.Ground.data }, { on := 0, ground := Go.Ground.phase }, { on := 1, ground := Go.Ground.textOnly Go.Departure.lateStores }, { on := 2, ground := Go.Ground.textOnly Go.Departure.lateStores }, { on := 3, ground := Go.Ground.textOnly Go.Departure.lateStores }, { on := 4, ground := Go.Ground.textOnly Go.Departure.lateStores }, { on := 5, ground := Go.Ground.textOnly Go.Departure.lateStores }], guard := none } (fun K hK => ?_)
      go_simp
      refine hK.out _ _ ?_ (fun hz1 => ?_)
      ·exact J.out
      clear hK K hz r0 r1 r2 s0 s1 s2
      try simp only [Act.put, la, lb, lc]
      have a := u.out;obtain ⟨r0, r1, r2, r3⟩ := a.c2;obtain ⟨s0, s1, s2, s3⟩ := a.f2;clear a;refine wR 7 { dst := none, op := Go.Op.store 32 (Go.Operand.tmp 5) (Go.Operand.tmp 43), type := 0, pos := "ref.go:62", after := #[{ on := 5, ground := Go.Ground.data }, { on := 6, ground := Go.Ground.chain }, { on := 0, ground := Go.Ground.phase }, { on := 1, ground := Go.Ground.phase }, { on := 2, ground := Go.Ground.phase }, { on := 3, ground := Go.Ground.phase }, { on := 4, ground := Go.Ground.phase }, { on := 5, ground := Go.Ground.phase }, { on := 6, ground := Go.Ground.phase }], guard := none } (fun K hK => ?_)
      go_simp
      refine hK.out _ _ ?_ (fun hz2 => ?_)
      ·exact aB.out
      clear hK K hz1 r0 r1 r2 s0 s1 s2 r3 s3
      try simp only [Act.put, la, lb, lc]
      have a := u.out;obtain ⟨f0, f1, f2⟩ := a.g1;obtain ⟨g0, g1, g2, g3⟩ := a.g2;simp only at g0 g1 g2 g3 f0 f1 f2;clear a hz2;refine wpAnyH_done (by kernel_rfl) ?_ _;refine NoPanic.normal ?_;go_wp2;exact bodyPost_ret (v := .tuple #[.agg (mdC vr (.slice ae Le ce) (.slice (some ⟨b0, d, none⟩) L cc)), clV ⟨cl, sq, 121, 0⟩]) (by simp [results, Tryz.results18, go_sem, f0, f1, f2, g0, g1, g2, g3]) rfl M.out
     ·have u3 : decide (sq < xq) = false := decide_eq_false hg
      have HN : Hid (if true then ∃ x, z2g cs cl = some x /\ ¬ x.sq = sq /\ ¬ sq < x.sq else ∀ j x, j < k + 1 -> cs[j]? = some x -> x.id ≠ cl) := hid ⟨_, HF.out, hq, hg⟩;clear he hq hg HQ;go_wp2;rw [<- I.out];go_roundw
      case rel => exact ⟨k + 1, true, by omega, by go_num, rfl, aR, HN⟩
      case measure => simp [intOf]; omega
   ·have u1 : (xi == cl) = false := by rw [beq_eq_false_iff_ne]; exact he
    have HN : Hid (if q then ∃ x, z2g cs cl = some x /\ ¬ x.sq = sq /\ ¬ sq < x.sq else ∀ j x, j < k + 1 -> cs[j]? = some x -> x.id ≠ cl) := hid (by
     have h := HQ.out
     cases q with
     | true => exact h
     | false =>
      simp only [Bool.false_eq_true, if_false] at h ⊢;intro j x hj hx
      by_cases e : j = k
      ·subst e; rw [HX.out] at hx; cases hx; exact he
      ·exact h j x (by omega) hx)
    clear he HQ;go_wp2;rw [<- I.out];go_roundw
    case rel => exact ⟨k + 1, q, by omega, by go_num, rfl, aR, HN⟩
    case measure => simp [intOf]; omega
  ·have bX : k = L := by omega
   clear bX;have aY := hid aP;have ar := hid (bj.out wr aP);have x0 := Z.out.c0;have x1 := Z.out.c1;have x2 := Z.out.c2;have y2 := aQ.out.c2;clear aP ag aX bm bn bo aT bj
   have bF : Hid (q = true ∨ L ≠ 16 -> doF ⟨vr, es, cs⟩ ⟨cl, sq, ch⟩ = exeF ⟨vr, es, cs⟩ ⟨cl, sq, ch⟩) := hid (by
    intro h;have hq := HQ.out
    cases q with
    | true => obtain ⟨x, h1, h2, h3⟩ := hq; exact zie (m := ⟨vr, es, cs⟩) (c := ⟨cl, sq, ch⟩) h1 h2 h3
    | false => exact zid (m := ⟨vr, es, cs⟩) (c := ⟨cl, sq, ch⟩) (z2x.2 (fun x hx => by obtain ⟨j, hj⟩ := List.getElem?_of_mem hx; exact hq j x (by have h8 : j < cs.length := (List.getElem?_eq_some_iff.1 hj).1; have := HL.out; omega) hj)) (by simp only; have := HL.out; rcases h with h | h; cases h; omega))
   have bG : Hid (q = false -> z2g cs cl = none) := hid (by
    intro h;have hq := HQ.out;subst h
    exact z2x.2 (fun x hx => by obtain ⟨j, hj⟩ := List.getElem?_of_mem hx; exact hq j x (by have := (List.getElem?_eq_some_iff.1 hj).1; have := HL.out; omega) hj))
   clear HQ
   by_cases aS : q = false /\ L = 16
   ·obtain ⟨rfl, aS⟩ := aS
    have u6 : decide ((16 : Int) <= L) = true := decide_eq_true (by omega);have HD := hid (zic (m := ⟨vr, es, cs⟩) (c := ⟨cl, sq, ch⟩) (bG.out rfl) (by simp only; have := HL.out; omega));clear aS;go_wp2;clear x0 x1 x2 y2;have ai : Hid (wr.drew.cell? ⟨w.heap.size, 0, none⟩ = some (.int .i64 vr) /\ wr.drew.cell? ⟨w.heap.size, 1, none⟩ = some (.slice ae Le ce) /\ wr.drew.cell? ⟨w.heap.size, 2, none⟩ = some (.slice ac L cc) /\ wr.drew.cell? ⟨w.heap.size + 1, 0, none⟩ = some (.int .i64 cl) /\ wr.drew.cell? ⟨w.heap.size + 1, 1, none⟩ = some (.int .i64 sq)) := hid ⟨(z0l _ _).trans (Z.out.cell rfl), (z0l _ _).trans (Z.out.cell rfl), (z0l _ _).trans (Z.out.cell rfl), (z0l _ _).trans (aQ.out.cell rfl), (z0l _ _).trans (aQ.out.cell rfl)⟩;have ay := hid (bq.out.below (Below.refl wr.heap.size wr).drew);have az := hid (bt.out.below (Below.refl wr.heap.size wr).drew);have aj := hid aY.out.drew;have aA := hid (Z.out.below (Below.refl wr.heap.size wr).drew);have aq := hid (aQ.out.below (Below.refl wr.heap.size wr).drew);refine wp_region_noPanic ?_;refine wp_region_held_drew (S := fun W => W.cell? ⟨w.heap.size, 0, none⟩ = some (.int .i64 vr) /\ W.cell? ⟨w.heap.size, 1, none⟩ = some (.slice ae Le ce) /\ W.cell? ⟨w.heap.size, 2, none⟩ = some (.slice ac L cc) /\ W.cell? ⟨w.heap.size + 1, 0, none⟩ = some (.int .i64 cl) /\ W.cell? ⟨w.heap.size + 1, 1, none⟩ = some (.int .i64 sq)) (by kernel_rfl) ai.out (fun hz => ?_)
    generalize wr.drew = W6 at *
    refine wT 0 { dst := some 53, op := Go.Op.load 25 (Go.Operand.tmp 2), type := 25, pos := "ref.go:67", after := #[], guard := none } (v := ?_) (Or.inl ⟨by rfl, ?_⟩) ?_
    rotate_left
    ·(intro w hSw; (try dsimp only at hSw); go_simp) <;> with_reducible rfl
    simp only [Act.put, la, lb, lc];refine wT 1 { dst := some 54, op := Go.Op.fieldAddr 28 (Go.Operand.tmp 3) 0, type := 0, pos := "ref.go:67", after := #[{ on := 6, ground := Go.Ground.gcOnly Go.Departure.lateStores }], guard := none } (v := ?_) (Or.inl ⟨by rfl, ?_⟩) ?_
    rotate_left
    ·(intro w hSw; (try dsimp only at hSw); go_simp) <;> with_reducible rfl
    simp only [Act.put, la, lb, lc];refine wT 2 { dst := some 55, op := Go.Op.load 3 (Go.Operand.tmp 54), type := 3, pos := "ref.go:67", after := #[{ on := 1, ground := Go.Ground.data }, { on := 6, ground := Go.Ground.gcOnly Go.Departure.lateStores }], guard := none } (v := ?_) (Or.inl ⟨by rfl, ?_⟩) ?_
    rotate_left
    ·(intro w hSw; (try dsimp only at hSw); go_simp) <;> with_reducible rfl
    simp only [Act.put, la, lb, lc];refine wT 3 { dst := some 56, op := Go.Op.fieldAddr 28 (Go.Operand.tmp 3) 1, type := 0, pos := "ref.go:67", after := #[{ on := 6, ground := Go.Ground.gcOnly Go.Departure.lateStores }], guard := none } (v := ?_) (Or.inl ⟨by rfl, ?_⟩) ?_
    rotate_left
    ·(intro w hSw; (try dsimp only at hSw); go_simp) <;> with_reducible rfl
    simp only [Act.put, la, lb, lc];refine wT 4 { dst := some 57, op := Go.Op.load 3 (Go.Operand.tmp 56), type := 3, pos := "ref.go:67", after := #[{ on := 3, ground := Go.Ground.data }, { on := 6, ground := Go.Ground.gcOnly Go.Departure.lateStores }], guard := none } (v := ?_) (Or.inl ⟨by rfl, ?_⟩) ?_
    rotate_left
    ·(intro w hSw; (try dsimp only at hSw); go_simp) <;> with_reducible rfl
    simp only [Act.put, la, lb, lc];refine wT 5 { dst := some 58, op := Go.Op.build 32 #[(0, Go.Operand.tmp 55), (1, Go.Operand.tmp 57), (2, Go.Operand.const (Go.Value.int Go.IntKind.i64 130))], type := 32, pos := "ref.go:67", after := #[{ on := 2, ground := Go.Ground.data }, { on := 4, ground := Go.Ground.data }, { on := 6, ground := Go.Ground.gcOnly Go.Departure.lateStores }], guard := none } (v := ?_) (Or.inl ⟨by rfl, ?_⟩) ?_
    rotate_left
    ·(intro w hSw; (try dsimp only at hSw); go_simp) <;> with_reducible rfl
    simp only [Act.put, la, lb, lc];have g := z11 W6 (w.heap.size + 1 + 1) vr (.slice ae Le ce) (.slice ac L cc);have f := z1d (putM W6 (w.heap.size + 1 + 1) vr (.slice ae Le ce) (.slice ac L cc)) (w.heap.size + 1 + 1 + 1) cl sq 130 0;have u := hid (z6r ay.out az.out (by omega) vr (.slice ae Le ce) (.slice ac L cc) ⟨cl, sq, 130, 0⟩)
    have J : Hid ((putM W6 (w.heap.size + 1 + 1) vr (.slice ae Le ce) (.slice ac L cc)).cell? ⟨w.heap.size, 0, none⟩ = some (.int .i64 vr) /\ (putM W6 (w.heap.size + 1 + 1) vr (.slice ae Le ce) (.slice ac L cc)).cell? ⟨w.heap.size, 1, none⟩ = some (.slice ae Le ce) /\ (putM W6 (w.heap.size + 1 + 1) vr (.slice ae Le ce) (.slice ac L cc)).cell? ⟨w.heap.size, 2, none⟩ = some (.slice ac L cc) /\ (putM W6 (w.heap.size + 1 + 1) vr (.slice ae Le ce) (.slice ac L cc)).cell? ⟨w.heap.size + 1, 0, none⟩ = some (.int .i64 cl) /\ (putM W6 (w.heap.size + 1 + 1) vr (.slice ae Le ce) (.slice ac L cc)).cell? ⟨w.heap.size + 1, 1, none⟩ = some (.int .i64 sq)) := hid (by
     obtain ⟨k0, k1, k2, k3, k4⟩ := ai.out;exact ⟨(z08 g (by omega)).trans k0, (z08 g (by omega)).trans k1, (z08 g (by omega)).trans k2, (z08 g (by omega)).trans k3, (z08 g (by omega)).trans k4⟩
     )
    have aB : Hid ((putT (putM W6 (w.heap.size + 1 + 1) vr (.slice ae Le ce) (.slice ac L cc)) (w.heap.size + 1 + 1 + 1) cl sq 130 0).cell? ⟨w.heap.size, 0, none⟩ = some (.int .i64 vr) /\ (putT (putM W6 (w.heap.size + 1 + 1) vr (.slice ae Le ce) (.slice ac L cc)) (w.heap.size + 1 + 1 + 1) cl sq 130 0).cell? ⟨w.heap.size, 1, none⟩ = some (.slice ae Le ce) /\ (putT (putM W6 (w.heap.size + 1 + 1) vr (.slice ae Le ce) (.slice ac L cc)) (w.heap.size + 1 + 1 + 1) cl sq 130 0).cell? ⟨w.heap.size, 2, none⟩ = some (.slice ac L cc) /\ (putT (putM W6 (w.heap.size + 1 + 1) vr (.slice ae Le ce) (.slice ac L cc)) (w.heap.size + 1 + 1 + 1) cl sq 130 0).cell? ⟨w.heap.size + 1, 0, none⟩ = some (.int .i64 cl) /\ (putT (putM W6 (w.heap.size + 1 + 1) vr (.slice ae Le ce) (.slice ac L cc)) (w.heap.size + 1 + 1 + 1) cl sq 130 0).cell? ⟨w.heap.size + 1, 1, none⟩ = some (.int .i64 sq)) := hid (by
     obtain ⟨k0, k1, k2, k3, k4⟩ := J.out;exact ⟨(z08 f (by omega)).trans k0, (z08 f (by omega)).trans k1, (z08 f (by omega)).trans k2, (z08 f (by omega)).trans k3, (z08 f (by omega)).trans k4⟩
     )
    have M : Hid (RdP ⟨vr, es, cs⟩ ⟨cl, sq, ch⟩ w (.returned (.tuple #[.agg (mdC vr (.slice ae Le ce) (.slice ac L cc)), clV ⟨cl, sq, 130, 0⟩])) (putT (putM W6 (w.heap.size + 1 + 1) vr (.slice ae Le ce) (.slice ac L cc)) (w.heap.size + 1 + 1 + 1) cl sq 130 0)) := hid (by
     have D : Below w.heap.size w (putT (putM W6 (w.heap.size + 1 + 1) vr (.slice ae Le ce) (.slice ac L cc)) (w.heap.size + 1 + 1 + 1) cl sq 130 0) := (aj.out.trans (g.below (B := w.heap.size) (by omega))).trans (f.below (B := w.heap.size) (by omega));have hd : doF ⟨vr, es, cs⟩ ⟨cl, sq, ch⟩ = (⟨vr, es, cs⟩, ⟨cl, sq, 130, 0⟩) := HD.out
     unfold RdP
     rw [hd];simp only;exact ⟨ae, ce, ac, cc, by rw [H.out, HL.out], by rw [<- H.out]; exact ax.out.old D, by rw [<- HL.out]; exact af.out.old D, D⟩
     )
    have a := u.out;obtain ⟨r0, r1, r2⟩ := a.c1;obtain ⟨s0, s1, s2⟩ := a.f1;clear a;refine wR 6 { dst := none, op := Go.Op.store 25 (Go.Operand.tmp 4) (Go.Operand.tmp 53), type := 0, pos := "ref.go:67", after := #[{ on := 0, ground := Go.Ground.data }, { on := 0, ground := Go.Ground.phase }, { on := 1, ground := Go.Ground.textOnly Go.Departure.lateStores }, { on := 2, ground := Go.Ground.textOnly Go.Departure.lateStores }, { on := 3, ground := Go.Ground.textOnly Go.Departure.lateStores }, { on := 4, ground := Go.Ground.textOnly Go.Departure.lateStores }, { on := 5, ground := Go.Ground.textOnly Go.Departure.lateStores }], guard := none } (fun K hK => ?_)
    go_simp
    refine hK.out _ _ ?_ (fun hz1 => ?_)
    ·exact J.out
    clear hK K hz r0 r1 r2 s0 s1 s2
    try simp only [Act.put, la, lb, lc]
    have a := u.out;obtain ⟨r0, r1, r2, r3⟩ := a.c2;obtain ⟨s0, s1, s2, s3⟩ := a.f2;clear a;refine wR 7 { dst := none, op := Go.Op.store 32 (Go.Operand.tmp 5) (Go.Operand.tmp 58), type := 0, pos := "ref.go:67", after := #[{ on := 5, ground := Go.Ground.data }, { on := 6, ground := Go.Ground.chain }, { on := 0, ground := Go.Ground.phase }, { on := 1, ground := Go.Ground.phase }, { on := 2, ground := Go.Ground.phase }, { on := 3, ground := Go.Ground.phase }, { on := 4, ground := Go.Ground.phase }, { on := 5, ground := Go.Ground.phase }, { on := 6, ground := Go.Ground.phase }], guard := none } (fun K hK => ?_)
    go_simp
    refine hK.out _ _ ?_ (fun hz2 => ?_)
    ·exact aB.out
    clear hK K hz1 r0 r1 r2 s0 s1 s2 r3 s3
    try simp only [Act.put, la, lb, lc]
    have a := u.out;obtain ⟨f0, f1, f2⟩ := a.g1;obtain ⟨g0, g1, g2, g3⟩ := a.g2;simp only at g0 g1 g2 g3 f0 f1 f2;clear a hz2;refine wpAnyH_done (by kernel_rfl) ?_ _;refine NoPanic.normal ?_;go_wp2;exact bodyPost_ret (v := .tuple #[.agg (mdC vr (.slice ae Le ce) (.slice ac L cc)), clV ⟨cl, sq, 130, 0⟩]) (by simp [results, Tryz.results18, go_sem, f0, f1, f2, g0, g1, g2, g3]) rfl M.out
   ·have aZ := hid (bF.out (by cases q with | true => exact .inl rfl | false => exact .inr (fun h => aS ⟨rfl, h⟩)))
    have u6 : q = false -> decide ((16 : Int) <= L) = false := fun h => decide_eq_false (by have h9 : L ≠ 16 := fun h2 => aS ⟨h, h2⟩; omega)
    clear aS bG bF
    cases q
    focus
     have u6 := u6 rfl
     go_wp2_with fail
    rotate_left
    focus
     clear u6
     go_wp2_with fail
    all_goals
     obtain ⟨r, N⟩ := nmd (z17 es ch);rw [<- N.out] at ar
     rcases r with ke | l
     focus
      have bY := z5u (z19 bB.out.es) N.out.symm;refine ar.out.mono ?_;rintro e w2 ⟨f, rfl⟩;obtain ⟨ki, bv⟩ : ∃ z : Int, Hid (z = (ke : Int)) := ⟨_, hid rfl⟩;rw [<- bv.out]
      have u7 : (ki == 0) = false := by rw [beq_eq_false_iff_ne, bv.out]; omega
      have aC := hid (cg_a (v := vr) N.out.symm);have aD := hid (z00 aY.out f);have aE := hid (Z.out.below f);have au := hid (aQ.out.below f);have aF := hid (bq.out.below f);have aG := hid (bt.out.below f);have aH := hid (ax.out.old aD.out);have bH : Hid (SlL w2 (fun b => b < w.heap.size) (.slice ac L cc) cs) := hid (z3u (B := w.heap.size) af.out (Nat.le_refl _) aD.out);clear bY f x0 x1 x2 y2 ar;have a0 := aE.out.c0;have b0 := au.out.c0;have b1 := au.out.c1;obtain ⟨wo, o⟩ := nmd (w2.alloc (.cells #[.int .i64 cl, .int .i64 sq, .int .i64 ki, .int .i64 vr] 32));obtain ⟨oo, p⟩ := nmd (w2.heap.size)
      have n : Below w2.heap.size w2 wo := by rw [o.out]; exact z04 _ _
      have O : Hid (Row wo oo 32 [.int .i64 cl, .int .i64 sq, .int .i64 ki, .int .i64 vr]) := hid (by rw [o.out, p.out]; exact z02 w2 #[.int .i64 cl, .int .i64 sq, .int .i64 ki, .int .i64 vr] 32)
      have aw : w.heap.size + 4 <= oo := by have := p.out; have := aF.out.lt; have := aG.out.lt; have := au.out.lt; omega
      have U := hid (aE.out.below n);have s := hid (aF.out.below n);have t := hid (aG.out.below n);have V := hid (aH.out.old n);have R := hid (z3u bH.out aD.out.size n);have T := hid (z00 aD.out n);clear n;go_wp2;rw [<- p.out, <- o.out];clear a0 b0 b1 o p;obtain ⟨vm, am, nm, cm, em, km, C⟩ : ∃ vm am nm cm em km, Hid (Pk w wo ⟨vr, es, cs⟩ ⟨cl, sq, ch⟩ ac cc L oo vm am nm cm em km) := ⟨vr, ae, Le, ce, es, ki, hid ⟨U.out, s.out, t.out, O.out, V.out, R.out, T.out, H.out, aw, by rw [aZ.out, zi5 (m := ⟨vr, es, cs⟩) (c := ⟨cl, sq, ch⟩) aC.out, bv.out]⟩⟩
     rotate_left
     focus
      have bI := hid (z8i (z19 bB.out.es) N.out.symm);refine ar.out.mono ?_;rintro e w2 ⟨f, a2, c2, rfl, bw⟩;have G := hid (zf8 w2 a2 c2 l bw (z6h bI.out) (HV.out.below (z00 aY.out f)));have aH := hid bw;obtain ⟨n2, bJ⟩ := nmd (l.length);rw [<- bJ.out] at G aH ⊢;have aD := hid (z00 aY.out f);have aE := hid (Z.out.below f);have au := hid (aQ.out.below f);have aF := hid (bq.out.below f);have aG := hid (bt.out.below f);obtain ⟨bs, bZ⟩ := nmd ((⟨(z0r l).1.toArray⟩ : ByteArray));rw [<- bZ.out] at G;clear f bw x0 x1 x2 y2 ar
      rcases z7j l bI.out with hby | hby
      focus
       have h0 : (z0r l).2 = 0 := by rw [hby]
       rw [h0] at G;have H0 := hid h0;clear h0 hby
       go_wp2_with fail
       refine G.out.mono ?_;rintro e w3 ⟨rfl, y⟩;have X := hid (z00 aD.out y);have E := hid (aE.out.below y);have aa := hid (au.out.below y);have aI := hid (aF.out.below y);have aJ := hid (aG.out.below y);have aO : Hid (SlL w3 (fun b => b < w.heap.size) (.slice ac L cc) cs) := hid (z3u (B := w.heap.size) af.out (Nat.le_refl _) X.out);have bK := hid (aH.out.old y);have aW := hid (ax.out.old X.out);clear y G aE au aF aG aH;have x0 := E.out.c0
       by_cases hv : vr = 1073741824
       focus
        have u7 : (vr == 1073741824) = true := by rw [beq_iff_eq]; exact hv
        have aC := hid (cg_c N.out.symm H0.out hv);clear hv;have a0 := E.out.c0;have b0 := aa.out.c0;have b1 := aa.out.c1;obtain ⟨wo, o⟩ := nmd (w3.alloc (.cells #[.int .i64 cl, .int .i64 sq, .int .i64 130, .int .i64 vr] 32));obtain ⟨oo, p⟩ := nmd (w3.heap.size)
        have n : Below w3.heap.size w3 wo := by rw [o.out]; exact z04 _ _
        have O : Hid (Row wo oo 32 [.int .i64 cl, .int .i64 sq, .int .i64 130, .int .i64 vr]) := hid (by rw [o.out, p.out]; exact z02 w3 #[.int .i64 cl, .int .i64 sq, .int .i64 130, .int .i64 vr] 32)
        have aw : w.heap.size + 4 <= oo := by have := p.out; have := aI.out.lt; have := aJ.out.lt; have := aa.out.lt; omega
        have U := hid (E.out.below n);have s := hid (aI.out.below n);have t := hid (aJ.out.below n);have V := hid (aW.out.old n);have R := hid (z3u aO.out X.out.size n);have T := hid (z00 X.out n);clear n;go_wp2;rw [<- p.out, <- o.out];clear a0 b0 b1 o p;obtain ⟨vm, am, nm, cm, em, km, C⟩ : ∃ vm am nm cm em km, Hid (Pk w wo ⟨vr, es, cs⟩ ⟨cl, sq, ch⟩ ac cc L oo vm am nm cm em km) := ⟨vr, ae, Le, ce, es, 130, hid ⟨U.out, s.out, t.out, O.out, V.out, R.out, T.out, H.out, aw, by rw [aZ.out, zi5 (m := ⟨vr, es, cs⟩) (c := ⟨cl, sq, ch⟩) aC.out]; rfl⟩⟩
       rotate_left
       focus
        have u7 : (vr == 1073741824) = false := by rw [beq_eq_false_iff_ne]; exact hv
        have aC := hid (cg_d N.out.symm H0.out hv);clear hv;have x1 := E.out.c1;have x2 := E.out.c2;have t0 := E.out.thaw 0;have t1 := E.out.thaw 1;have t2 := E.out.thaw 2;have aK := z11 w3 w.heap.size (vr + 1) (.slice a2 n2 c2) (.slice ac L cc);have bL := hid (z2i E.out (vr + 1) (.slice a2 n2 c2) (.slice ac L cc));have bM := hid (aa.out.keep (aK.block _ (by omega)));have b7 := hid (aI.out.keep (aK.block _ (by omega)));have b8 := hid (aJ.out.keep (aK.block _ (by omega)));have b9 := hid (z6u bK.out E.out zdm aK);have bN := hid (sll_lt aO.out (Nat.le_refl _) aK);have aT := hid (X.out.trans (aK.below (B := w.heap.size) (Nat.le_refl _)));clear aK;have a0 := bL.out.c0;have b0 := bM.out.c0;have b1 := bM.out.c1;obtain ⟨wo, o⟩ := nmd ((putM w3 w.heap.size (vr + 1) (.slice a2 n2 c2) (.slice ac L cc)).alloc (.cells #[.int .i64 cl, .int .i64 sq, .int .i64 0, .int .i64 (vr + 1)] 32));obtain ⟨oo, p⟩ := nmd (w3.heap.size)
        have n : Below (putM w3 w.heap.size (vr + 1) (.slice a2 n2 c2) (.slice ac L cc)).heap.size (putM w3 w.heap.size (vr + 1) (.slice a2 n2 c2) (.slice ac L cc)) wo := by rw [o.out]; exact z04 _ _
        have O : Hid (Row wo oo 32 [.int .i64 cl, .int .i64 sq, .int .i64 0, .int .i64 (vr + 1)]) := hid (by rw [o.out, p.out, <- (z11 w3 w.heap.size (vr + 1) (.slice a2 n2 c2) (.slice ac L cc)).size]; exact z02 (putM w3 w.heap.size (vr + 1) (.slice a2 n2 c2) (.slice ac L cc)) #[.int .i64 cl, .int .i64 sq, .int .i64 0, .int .i64 (vr + 1)] 32)
        have aw : w.heap.size + 4 <= oo := by have := p.out; have := aI.out.lt; have := aJ.out.lt; have := aa.out.lt; omega
        have U := hid (bL.out.below n);have s := hid (b7.out.below n);have t := hid (b8.out.below n);have V := hid (b9.out.old n);have R := hid (z3u bN.out aT.out.size n);have T := hid (z00 aT.out n);clear n;go_wp2;rw [<- p.out, <- o.out];clear a0 b0 b1 o p;obtain ⟨vm, am, nm, cm, em, km, C⟩ : ∃ vm am nm cm em km, Hid (Pk w wo ⟨vr, es, cs⟩ ⟨cl, sq, ch⟩ ac cc L oo vm am nm cm em km) := ⟨(vr + 1), a2, n2, c2, l, 0, hid ⟨U.out, s.out, t.out, O.out, V.out, R.out, T.out, bJ.out, aw, by rw [aZ.out, exe_yes (m := ⟨vr, es, cs⟩) (c := ⟨cl, sq, ch⟩) aC.out]⟩⟩
      rotate_left 2
      focus
       have h0 : (z0r l).2 = 2 := by rw [hby]
       rw [h0] at G;have aC := hid (cg_b (v := vr) N.out.symm (by rw [h0]; decide));clear h0 hby
       go_wp2_with fail
       refine G.out.mono ?_;rintro e w3 ⟨rfl, y⟩;have X := hid (z00 aD.out y);have E := hid (aE.out.below y);have aa := hid (au.out.below y);have aI := hid (aF.out.below y);have aJ := hid (aG.out.below y);have aO : Hid (SlL w3 (fun b => b < w.heap.size) (.slice ac L cc) cs) := hid (z3u (B := w.heap.size) af.out (Nat.le_refl _) X.out);have bK := hid (aH.out.old y);have aW := hid (ax.out.old X.out);clear y G aE au aF aG aH;have a0 := E.out.c0;have b0 := aa.out.c0;have b1 := aa.out.c1;obtain ⟨wo, o⟩ := nmd (w3.alloc (.cells #[.int .i64 cl, .int .i64 sq, .int .i64 2, .int .i64 vr] 32));obtain ⟨oo, p⟩ := nmd (w3.heap.size)
       have n : Below w3.heap.size w3 wo := by rw [o.out]; exact z04 _ _
       have O : Hid (Row wo oo 32 [.int .i64 cl, .int .i64 sq, .int .i64 2, .int .i64 vr]) := hid (by rw [o.out, p.out]; exact z02 w3 #[.int .i64 cl, .int .i64 sq, .int .i64 2, .int .i64 vr] 32)
       have aw : w.heap.size + 4 <= oo := by have := p.out; have := aI.out.lt; have := aJ.out.lt; have := aa.out.lt; omega
       have U := hid (E.out.below n);have s := hid (aI.out.below n);have t := hid (aJ.out.below n);have V := hid (aW.out.old n);have R := hid (z3u aO.out X.out.size n);have T := hid (z00 X.out n);clear n;go_wp2;rw [<- p.out, <- o.out];clear a0 b0 b1 o p;obtain ⟨vm, am, nm, cm, em, km, C⟩ : ∃ vm am nm cm em km, Hid (Pk w wo ⟨vr, es, cs⟩ ⟨cl, sq, ch⟩ ac cc L oo vm am nm cm em km) := ⟨vr, ae, Le, ce, es, 2, hid ⟨U.out, s.out, t.out, O.out, V.out, R.out, T.out, H.out, aw, by rw [aZ.out, zi5 (m := ⟨vr, es, cs⟩) (c := ⟨cl, sq, ch⟩) aC.out]; rfl⟩⟩
     all_goals
      have U := hid C.out.hx;have s := hid C.out.hr;have t := hid C.out.ht;have O := hid C.out.ho;have V := hid C.out.he;have R := hid C.out.hc;have T := hid C.out.hb;have bz := hid C.out.hn;have bh := hid C.out.hd;have aw := C.out.hoo;clear C;simp only at O R bh;have aM := (Below.refl wo.heap.size wo).drew;have aA := hid (U.out.below aM);have ay := hid (s.out.below aM);have az := hid (t.out.below aM);have aq := hid (O.out.below aM);have cg := hid (V.out.old aM);have cj := hid (z3u R.out T.out.size aM);have aj := hid T.out.drew;clear aM U s t O V R T;have bi : Hid (∀ W, Below wo.drew.heap.size wo.drew W -> W.cell? ⟨w.heap.size, 0, none⟩ = some (.int .i64 vm) /\ W.cell? ⟨w.heap.size, 1, none⟩ = some (.slice am nm cm) /\ W.cell? ⟨w.heap.size, 2, none⟩ = some (.slice ac L cc) /\ W.cell? ⟨oo, 0, none⟩ = some (.int .i64 cl) /\ W.cell? ⟨oo, 1, none⟩ = some (.int .i64 sq) /\ W.cell? ⟨oo, 2, none⟩ = some (.int .i64 km) /\ W.cell? ⟨oo, 3, none⟩ = some (.int .i64 vm)) := hid (fun W h => ⟨(aA.out.below h).cell rfl, (aA.out.below h).cell rfl, (aA.out.below h).cell rfl, (aq.out.below h).cell rfl, (aq.out.below h).cell rfl, (aq.out.below h).cell rfl, (aq.out.below h).cell rfl⟩);have bO := hid (bi.out wo.drew (Below.refl _ _));refine wp_region_noPanic ?_;refine wp_region_held_drew (S := fun W => W.cell? ⟨w.heap.size, 0, none⟩ = some (.int .i64 vm) /\ W.cell? ⟨w.heap.size, 1, none⟩ = some (.slice am nm cm) /\ W.cell? ⟨w.heap.size, 2, none⟩ = some (.slice ac L cc) /\ W.cell? ⟨oo, 0, none⟩ = some (.int .i64 cl) /\ W.cell? ⟨oo, 1, none⟩ = some (.int .i64 sq) /\ W.cell? ⟨oo, 2, none⟩ = some (.int .i64 km) /\ W.cell? ⟨oo, 3, none⟩ = some (.int .i64 vm)) (by kernel_rfl) bO.out (fun hz => ?_)
      generalize wo.drew = W6 at *
      refine wT 0 { dst := some 99, op := Go.Op.load 25 (Go.Operand.tmp 2), type := 25, pos := "ref.go:81", after := #[], guard := none } (v := ?_) (Or.inl ⟨by rfl, ?_⟩) ?_
      rotate_left
      ·(intro w hSw; (try dsimp only at hSw); go_simp) <;> with_reducible rfl
      simp only [Act.put, la, lb, lc];refine wT 1 { dst := some 100, op := Go.Op.load 32 (Go.Operand.tmp 13), type := 32, pos := "ref.go:81", after := #[], guard := none } (v := ?_) (Or.inl ⟨by rfl, ?_⟩) ?_
      rotate_left
      ·(intro w hSw; (try dsimp only at hSw); go_simp) <;> with_reducible rfl
      simp only [Act.put, la, lb, lc];refine wT 3 { dst := some 102, op := Go.Op.load 32 (Go.Operand.tmp 13), type := 32, pos := "ref.go:81", after := #[{ on := 4, ground := Go.Ground.gcOnly Go.Departure.lateStores }], guard := none } (v := ?_) (Or.inl ⟨by rfl, ?_⟩) ?_
      rotate_left
      ·(intro w hSw; (try dsimp only at hSw); go_simp) <;> with_reducible rfl
      simp only [Act.put, la, lb, lc];refine wR 2 { dst := some 101, op := Go.Op.call { callee := Go.Callee.value (Go.Operand.func 47), args := #[Go.Operand.tmp 99, Go.Operand.tmp 100], argTypes := #[25, 32] }, type := 25, pos := "ref.go:81", after := #[{ on := 0, ground := Go.Ground.data }, { on := 1, ground := Go.Ground.data }], guard := none } (fun K hK => ?_)
      go_simp
      have bc := told_any W6 ⟨vm, em, cs⟩ am cm ac cc ⟨cl, sq, km, vm⟩ (by simp only; rw [<- HL.out]; exact sll_ltO cj.out aj.out.size) bC.out bd.out;simp only at bc;rw [<- HL.out, <- bz.out] at bc;refine bc.mono ?_;clear bc;rintro e u1 ⟨a9, c9, rfl, bP, aN⟩;have bQ := hid bP;have ck := hid (z00 aj.out aN);have cx := hid (aA.out.below aN);have bR := hid (ay.out.below aN);have bS := hid (az.out.below aN);have cr := hid (cg.out.old aN);have bT := hid (bi.out u1 aN)
      have h6 : w.heap.size + 4 <= W6.heap.size := by have := aq.out.lt; omega
      clear bP aN;obtain ⟨n9, bA⟩ := nmd ((putL ⟨cl, sq, km, vm⟩ cs).length);rw [<- bA.out] at bQ ⊢
      go_wp2_with fail
      refine hK.out _ _ ?_ (fun hz => ?_)
      ·exact bT.out
      clear hK K
      try simp only [Act.put, la, lb, lc]
      have g := z11 u1 (w.heap.size + 1 + 1) vm (.slice am nm cm) (.slice a9 n9 c9);have f := z1d (putM u1 (w.heap.size + 1 + 1) vm (.slice am nm cm) (.slice a9 n9 c9)) (w.heap.size + 1 + 1 + 1) cl sq km vm;have u := hid (z6r bR.out bS.out (by omega) vm (.slice am nm cm) (.slice a9 n9 c9) ⟨cl, sq, km, vm⟩)
      have J : Hid ((putM u1 (w.heap.size + 1 + 1) vm (.slice am nm cm) (.slice a9 n9 c9)).cell? ⟨w.heap.size, 0, none⟩ = some (.int .i64 vm) /\ (putM u1 (w.heap.size + 1 + 1) vm (.slice am nm cm) (.slice a9 n9 c9)).cell? ⟨w.heap.size, 1, none⟩ = some (.slice am nm cm) /\ (putM u1 (w.heap.size + 1 + 1) vm (.slice am nm cm) (.slice a9 n9 c9)).cell? ⟨w.heap.size, 2, none⟩ = some (.slice ac L cc) /\ (putM u1 (w.heap.size + 1 + 1) vm (.slice am nm cm) (.slice a9 n9 c9)).cell? ⟨oo, 0, none⟩ = some (.int .i64 cl) /\ (putM u1 (w.heap.size + 1 + 1) vm (.slice am nm cm) (.slice a9 n9 c9)).cell? ⟨oo, 1, none⟩ = some (.int .i64 sq) /\ (putM u1 (w.heap.size + 1 + 1) vm (.slice am nm cm) (.slice a9 n9 c9)).cell? ⟨oo, 2, none⟩ = some (.int .i64 km) /\ (putM u1 (w.heap.size + 1 + 1) vm (.slice am nm cm) (.slice a9 n9 c9)).cell? ⟨oo, 3, none⟩ = some (.int .i64 vm)) := hid (by
       obtain ⟨k0, k1, k2, k3, k4, k5, k6⟩ := bT.out;exact ⟨(z08 g (by omega)).trans k0, (z08 g (by omega)).trans k1, (z08 g (by omega)).trans k2, (z08 g (by omega)).trans k3, (z08 g (by omega)).trans k4, (z08 g (by omega)).trans k5, (z08 g (by omega)).trans k6⟩
       )
      have aB : Hid ((putT (putM u1 (w.heap.size + 1 + 1) vm (.slice am nm cm) (.slice a9 n9 c9)) (w.heap.size + 1 + 1 + 1) cl sq km vm).cell? ⟨w.heap.size, 0, none⟩ = some (.int .i64 vm) /\ (putT (putM u1 (w.heap.size + 1 + 1) vm (.slice am nm cm) (.slice a9 n9 c9)) (w.heap.size + 1 + 1 + 1) cl sq km vm).cell? ⟨w.heap.size, 1, none⟩ = some (.slice am nm cm) /\ (putT (putM u1 (w.heap.size + 1 + 1) vm (.slice am nm cm) (.slice a9 n9 c9)) (w.heap.size + 1 + 1 + 1) cl sq km vm).cell? ⟨w.heap.size, 2, none⟩ = some (.slice ac L cc) /\ (putT (putM u1 (w.heap.size + 1 + 1) vm (.slice am nm cm) (.slice a9 n9 c9)) (w.heap.size + 1 + 1 + 1) cl sq km vm).cell? ⟨oo, 0, none⟩ = some (.int .i64 cl) /\ (putT (putM u1 (w.heap.size + 1 + 1) vm (.slice am nm cm) (.slice a9 n9 c9)) (w.heap.size + 1 + 1 + 1) cl sq km vm).cell? ⟨oo, 1, none⟩ = some (.int .i64 sq) /\ (putT (putM u1 (w.heap.size + 1 + 1) vm (.slice am nm cm) (.slice a9 n9 c9)) (w.heap.size + 1 + 1 + 1) cl sq km vm).cell? ⟨oo, 2, none⟩ = some (.int .i64 km) /\ (putT (putM u1 (w.heap.size + 1 + 1) vm (.slice am nm cm) (.slice a9 n9 c9)) (w.heap.size + 1 + 1 + 1) cl sq km vm).cell? ⟨oo, 3, none⟩ = some (.int .i64 vm)) := hid (by
       obtain ⟨k0, k1, k2, k3, k4, k5, k6⟩ := J.out;exact ⟨(z08 f (by omega)).trans k0, (z08 f (by omega)).trans k1, (z08 f (by omega)).trans k2, (z08 f (by omega)).trans k3, (z08 f (by omega)).trans k4, (z08 f (by omega)).trans k5, (z08 f (by omega)).trans k6⟩
       )
      have M : Hid (RdP ⟨vr, es, cs⟩ ⟨cl, sq, ch⟩ w (.returned (.tuple #[.agg (mdC vm (.slice am nm cm) (.slice a9 n9 c9)), clV ⟨cl, sq, km, vm⟩])) (putT (putM u1 (w.heap.size + 1 + 1) vm (.slice am nm cm) (.slice a9 n9 c9)) (w.heap.size + 1 + 1 + 1) cl sq km vm)) := hid (by
       have D : Below w.heap.size w (putT (putM u1 (w.heap.size + 1 + 1) vm (.slice am nm cm) (.slice a9 n9 c9)) (w.heap.size + 1 + 1 + 1) cl sq km vm) := (ck.out.trans (g.below (B := w.heap.size) (by omega))).trans (f.below (B := w.heap.size) (by omega))
       have hd : doF ⟨vr, es, cs⟩ ⟨cl, sq, ch⟩ = (⟨vm, em, putL ⟨cl, sq, km, vm⟩ cs⟩, ⟨cl, sq, km, vm⟩) := by
        exact bh.out
       have e1 := z6u cr.out bR.out z95 g;have e2 := z6u e1 (bS.out.keep (g.block _ (by omega))) no_text0 f;have l1 := zg3 bQ.out (A := (w.heap.size + 1 + 1)) (by omega) g;have l2 := zg3 l1 (A := (w.heap.size + 1 + 1 + 1)) (by omega) f
       unfold RdP
       rw [hd];simp only;exact ⟨_, _, a9, c9, by rw [<- bA.out, <- bz.out], by rw [<- bz.out]; exact e2, by rw [<- bA.out]; exact sll_old l2, D⟩
       )
      have a := u.out;obtain ⟨r0, r1, r2⟩ := a.c1;obtain ⟨s0, s1, s2⟩ := a.f1;clear a;refine wR 4 { dst := none, op := Go.Op.store 25 (Go.Operand.tmp 4) (Go.Operand.tmp 101), type := 0, pos := "ref.go:81", after := #[{ on := 2, ground := Go.Ground.data }, { on := 2, ground := Go.Ground.chain }, { on := 0, ground := Go.Ground.phase }, { on := 1, ground := Go.Ground.phase }, { on := 2, ground := Go.Ground.phase }, { on := 3, ground := Go.Ground.textOnly Go.Departure.lateStores }], guard := none } (fun K hK => ?_)
      go_simp
      refine hK.out _ _ ?_ (fun hz1 => ?_)
      ·exact J.out
      clear hK K hz r0 r1 r2 s0 s1 s2
      try simp only [Act.put, la, lb, lc]
      have a := u.out;obtain ⟨r0, r1, r2, r3⟩ := a.c2;obtain ⟨s0, s1, s2, s3⟩ := a.f2;clear a;refine wR 5 { dst := none, op := Go.Op.store 32 (Go.Operand.tmp 5) (Go.Operand.tmp 102), type := 0, pos := "ref.go:81", after := #[{ on := 3, ground := Go.Ground.data }, { on := 4, ground := Go.Ground.chain }, { on := 0, ground := Go.Ground.phase }, { on := 1, ground := Go.Ground.phase }, { on := 2, ground := Go.Ground.phase }, { on := 3, ground := Go.Ground.phase }, { on := 4, ground := Go.Ground.phase }], guard := none } (fun K hK => ?_)
      go_simp
      refine hK.out _ _ ?_ (fun hz2 => ?_)
      ·exact aB.out
      clear hK K hz1 r0 r1 r2 s0 s1 s2 r3 s3
      try simp only [Act.put, la, lb, lc]
      have a := u.out;obtain ⟨f0, f1, f2⟩ := a.g1;obtain ⟨g0, g1, g2, g3⟩ := a.g2;simp only at g0 g1 g2 g3 f0 f1 f2;clear a hz2;refine wpAnyH_done (by kernel_rfl) ?_ _;refine NoPanic.normal ?_;go_wp2;exact bodyPost_ret (v := .tuple #[.agg (mdC vm (.slice am nm cm) (.slice a9 n9 c9)), clV ⟨cl, sq, km, vm⟩]) (by simp [results, Tryz.results18, go_sem, f0, f1, f2, g0, g1, g2, g3]) rfl M.out
end Go.Proofs.YtdkkkeoicekdgaaGreatDoor.Md
